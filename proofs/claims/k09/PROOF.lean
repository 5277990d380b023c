import PyProof.Rows.All
import Wide.All
import OpenK.AllK
import Wide.FinOn
import HandS.ForMost
import HandS.ForExc
import HandS.Wide
import HandS.IsInst
import HandS.ExcIs
import KE.KEqSeq
import KE.KEqDeep
import HandS.Lambda
import HandS.Nested
import HandS.Defaults
import HandS.TryMany
import HandS.EndTab
import HandS.Star
import HandS.Text
import HandS.StrMore
import HandS.TupAny
import HandS.RaiseMore
import HandS.Iter
import HandS.More
import KE.KUnpackStar
import HandS.Codes
import HandS.Walk
import PySem.Challenge.RW_rangebook_k09_lines_read_and_written
set_option Elab.async false
set_option linter.all false
set_option maxRecDepth 100000
set_option maxHeartbeats 4000000
namespace RB
open PySem PySem.Spec PyProof.Rows L2
def nAdd : R2 := rI0 fun i j => .int (i + j)
def nSub : R2 := rI0 fun i j => .int (i - j)
def nMul : R2 := rI CMul fun i j => .int (i * j)
def nMulW : R2 := rI CMulW fun i j => .int (i * j)
def nDiv : R2 := rI CDiv fun i j => .int (i / j)
def nMod : R2 := rI (fun _ j => 0 < j) fun i j => .int (i % j)
def nPow : R2 := rI CPow fun i j => .int (i ^ j.toNat)
def nLt : R2 := rI0 fun i j => .bl (decide (i < j))
def nLe : R2 := rI0 fun i j => .bl (decide (i ≤ j))
def nGt : R2 := rI0 fun i j => .bl (decide (j < i))
def nGe : R2 := rI0 fun i j => .bl (decide (j ≤ i))
def nIs : R2 := fun x y H Q => y = .non ∧ Q (.bl (decide (x = .non))) H
def nIsNot : R2 := fun x y H Q => y = .non ∧ Q (.bl (!decide (x = .non))) H
def nNeg : V → Hp → VK → Prop := rU fun i => .int (-i)
def nMax : List V → Hp → VK → Prop := fun xs H Q => ∃ i j, xs = [.int i, .int j] ∧ Q (.int (if j > i then j else i)) H
def nMin : List V → Hp → VK → Prop := fun xs H Q => ∃ i j, xs = [.int i, .int j] ∧ Q (.int (if j < i then j else i)) H
def nLen (K : PySem.W.Frag) : List V → Hp → VK → Prop := fun xs H Q => ∃ p ys, xs = [.ref p] ∧ (SqL K H p ys ∨ SqT K H p ys) ∧ Q (.int ys.length) H
section
variable {X : Cx}
theorem oAdd : OpR X (binaryOp .Add) nAdd := op_add
theorem oSub : OpR X (binaryOp .Sub) nSub := op_sub
theorem oMul : OpR X (binaryOp .Mult) nMul := op_mul
theorem oDiv : OpR X (binaryOp .FloorDiv) nDiv := op_fdiv
theorem oMod : OpR X (binaryOp .Mod) nMod := op_mod
theorem oPow : OpR X (binaryOp .Pow) nPow := op_pow
theorem oLt : OpR X (compareOp .Lt) nLt := op_lt
theorem oGt : OpR X (compareOp .Gt) nGt := op_gt
theorem oIs : OpR X (compareOp .Is) nIs := op_isN
theorem oNeg : UnR X (unaryOp .USub) nNeg := un_neg
theorem cMax (hc : X.calm = true) : CallR X (.builtin "max") nMax := call_max2 hc
theorem cLen : CallR X (.builtin "len") (nLen X.K) := call_len_seq
end
structure DefAt (K : PySem.W.Frag) (mg : Str → Option Value) (x : Str) (st : Stmt) (ps : List Str) : Prop where
  ex : ∃ f fd, Fun K x x st f fd ∧ mg x = some (.ref f) ∧ Binds K fd ps []
structure Cal (P : Program) (w : World) (K : PySem.W.Frag) (mg : Str → Option Value) (base : Heap) (k : Nat) (x : Str) (ps : List Str) (sp : Sp) : Prop where
  ex : ∃ f fd, FnOk P w K mg base (L2.CX P w) k f fd ps sp ∧ mg x = some (.ref f) ∧ PySem.W.keepIn K (.ref f) = true ∧ Binds K fd ps []
section
variable {P : Program} {w : World} {K : PySem.W.Frag} {mg : Str → Option Value} {base : Heap} {x : Str} {st : Stmt} {ps N : List Str} {sp : Sp} {k : Nat}
theorem DefAt.cal (D : DefAt K mg x st ps) (S : FnScope N ps (defScope st)) (len : ∀ vs H Q E, sp vs H Q E → vs.length = ps.length) (t : XK → TS)
    (der : ∀ (f : Addr) (cdv : Value) (A : Around) (outer : List Env) (s : Shared) (H : Hp) (E : XK), Room k (A.deeper (envOfC x (defScope st) s.heap.objs.size f cdv)) → PSs (cxOf (L2.CX P w) P w K mg base N x (defScope st) f cdv A outer s H E) (defBody st) (t E))
    (pure : ∀ vs H Q E, sp vs H Q E → t E { nx := fun _ H' => Q .non H', rt := Q } (start N vs) H) : Cal P w K mg base (k + 1) x ps sp := by
  obtain ⟨f, fd, F, hm, hb⟩ := D.ex
  exact ⟨f, fd, F.okX S len fun cdv A outer s H vs Q E hr h => ⟨t E, der f cdv A outer s H E hr, pure vs H Q E h⟩, hm, F.kp, hb⟩
theorem Cal.mono {j : Nat} (C : Cal P w K mg base j x ps sp) (h : j ≤ k) : Cal P w K mg base k x ps sp := by
  obtain ⟨f, fd, F, hm, hk, hb⟩ := C.ex
  exact ⟨f, fd, F.mono h, hm, hk, hb⟩
theorem DefAt.none (D : DefAt K mg x st ps) (no : ∀ vs H Q E, ¬ sp vs H Q E) : Cal P w K mg base k x ps sp := by
  obtain ⟨f, fd, F, hm, hb⟩ := D.ex
  exact ⟨f, fd, ⟨fun vs H Q E h => absurd h (no vs H Q E), fun A outer s H args us vs Q E _ _ _ _ h => absurd h (no vs H Q E)⟩, hm, F.kp, hb⟩
end
theorem pass_own {P : Program} {w : World} {K : PySem.W.Frag} {mg : Str → Option Value} {base : Heap} {N : List Str} {q : Str} {sc : Scope} {f : Addr} {cd : Value} {A : Around} {outer : List Env} {s : Shared} {H : Hp} {E : XK} :
    Passes (L2.CX P w) (cxOf (L2.CX P w) P w K mg base N q sc f cd A outer s H E) E :=
  fun pins σ H s e s' I c => passes_call (takes_of rfl rfl rfl rfl) (fun _ _ _ _ z => z) pins σ H s e s' I c
section
variable {X : Cx} {k j : Nat} {ps : List Str} {sp : Sp} {E : XK} {x : Str} {p pos : Pos} {e : Expr} {es : List Expr} {t : TA}
theorem pe_callC (C : Cal X.prog X.w X.K X.mg X.base k x ps sp) (hr : Room j X.A) (hj : k ≤ j) (hg : Gl X x) (hx : Passes (L2.CX X.prog X.w) X E) (ha : PA X (e :: es) t)
    (hdb : (x == ("__debug__" : Str)) = false := by decide) (he : starEach (e :: es) X.env = (false, eval e X.env) :: starEach es X.env := by rfl) (hpl : (backTo pos (starEach es X.env)).any (·.1) = false := by rfl) :
    PE X (.Call (.Name x p) (e :: es) [] pos) (tCall sp [] E t) := by
  obtain ⟨f, fd, F, hm, hk, hb⟩ := C.ex
  exact pe_call F (hr.mono hj) hg hm hk hb .nil hx ha hdb he hpl
end
def tRaise (E : XK) (C : Addr) : TS := fun _ _ H => E (.ref C) none H
structure ExcAt (K : PySem.W.Frag) (mg : Str → Option Value) (x : Str) (C : Addr) : Prop where
  g : mg x = some (.ref C)
  q : PySem.W.excIn K C [.type "ValueError", .type "Exception", .type "BaseException", .type "object"] "ValueError.__new__" = true
  k : PySem.W.keepIn K (.ref C) = true
  b : PySem.W.subIn K (.ref C) (.type "BaseException") = some true
  t : PySem.W.typeIn K (.ref C) = some (.type "type")
theorem ps_raiseC {P : Program} {w : World} {K : PySem.W.Frag} {mg : Str → Option Value} {base : Heap} {N : List Str} {q : Str} {sc : Scope} {f : Addr} {cd : Value} {A : Around} {outer : List Env} {s : Shared} {H : Hp} {E : XK}
    {x m : Str} {C : Addr} {j : Nat} {p p2 pos pos2 : Pos} (T : ExcAt K mg x C) (hg : Gl (cxOf (L2.CX P w) P w K mg base N q sc f cd A outer s H E) x) (hdb : (x == ("__debug__" : Str)) = false := by decide) :
    PS (cxOf (L2.CX P w) P w K mg base N q sc f cd A outer s H E) (.Raise (some (.Call (.Name x p) [.Constant (.str m) j p2] [] pos)) none pos2) (tRaise E C) :=
  ps_raise (W := fun cls d _ H => E cls d H) rfl (takes_of rfl rfl rfl rfl) (pmk_own PySem.F.excBase_ValueError T.q T.g T.k (raises_own T.b T.t) hg hdb)
def tChain3 (r r' r2 : R2) (ta tb tc td : TE) : TE := fun σ H Q => ta σ H fun x H1 => tb σ H1 fun y H2 => r x y H2 fun z H3 => ∃ k, z = .bl k ∧
  (if k = true then tc σ H3 fun w' H4 => r' y w' H4 fun z' H5 => ∃ k', z' = .bl k' ∧ (if k' = true then td σ H5 fun u' H6 => r2 w' u' H6 Q else Q (.bl false) H5) else Q (.bl false) H3)
structure CalMk (P : Program) (w : World) (K : PySem.W.Frag) (mg : Str → Option Value) (base : Heap) (k : Nat) (x : Str) (C : Addr) (ps : List Str) (sp : Sp) : Prop where
  ex : ∃ f fd, Mk K C f ∧ FnOk P w K mg base (L2.CX P w) k f fd ps sp ∧ mg x = some (.ref C) ∧ Binds K fd ps []
def nTry (K : PySem.W.Frag) (c : Value) (E : XK) (tb : WX → TS) (ts : Addr → Value → Option Addr → TS) : TS := fun D σ H => tb (wOnly K c ts (fun cls d _ H => E cls d H) D) D σ H
def nTryAs (K : PySem.W.Frag) (c : Value) (i : Nat) (E : XK) (tb : WX → TS) (ts : Addr → Value → Option Addr → TS) : TS := fun D σ H => tb (wAs K c i ts (fun cls d _ H => E cls d H) D) D σ H
def tKnown (cls : Value) (d : Option Addr) (C : Value) (t : TS) : TS := fun D σ H => cls = C ∧ d = none ∧ t D σ H
theorem pss_known {X : Cx} {st : List Stmt} {cls C : Value} {d : Option Addr} {t : TS} (h : cls = C → d = none → PSs X st t) : PSs X st (tKnown cls d C t) := ⟨fun pins s σ H D I hw => by
  obtain ⟨h1, h2, hw⟩ := hw
  exact (h h1 h2).run pins s σ H D I hw⟩
section
variable {X : Cx} {k j : Nat} {ps : List Str} {sp : Sp} {E : L2.St → XK} {x : Str} {p pos : Pos} {e : Expr} {es : List Expr} {t : TA}
theorem pe_callSC (C : Cal X.prog X.w X.K X.mg X.base k x ps sp) (hr : Room j X.A) (hj : k ≤ j) (hg : Gl X x) (hx : ∀ σ, PassesAt (L2.CX X.prog X.w) X σ (E σ)) (ha : PA X (e :: es) t)
    (hdb : (x == ("__debug__" : Str)) = false := by decide) (he : starEach (e :: es) X.env = (false, eval e X.env) :: starEach es X.env := by rfl) (hpl : (backTo pos (starEach es X.env)).any (·.1) = false := by rfl) :
    PE X (.Call (.Name x p) (e :: es) [] pos) (tCallS sp E t) := by
  obtain ⟨f, fd, F, hm, hk, hb⟩ := C.ex
  exact pe_callS F (hr.mono hj) hg hm hk hb hx ha hdb he hpl
end
end RB
namespace RB
open PySem PySem.Spec PyProof.Rows L2
section
variable {i j : Int} {H : Hp} {Q : VK} {σ : L2.St} {K : PySem.W.Frag} {x y v : V}
theorem nAdd_ap : nAdd (.int i) (.int j) H Q = Q (.int (i + j)) H := by simp [nAdd, rI0]
theorem nSub_ap : nSub (.int i) (.int j) H Q = Q (.int (i - j)) H := by simp [nSub, rI0]
theorem nLt_ap : nLt (.int i) (.int j) H Q = Q (.bl (decide (i < j))) H := by simp [nLt, rI0]
theorem nLe_ap : nLe (.int i) (.int j) H Q = Q (.bl (decide (i ≤ j))) H := by simp [nLe, rI0]
theorem nGt_ap : nGt (.int i) (.int j) H Q = Q (.bl (decide (j < i))) H := by simp [nGt, rI0]
theorem nGe_ap : nGe (.int i) (.int j) H Q = Q (.bl (decide (j ≤ i))) H := by simp [nGe, rI0]
theorem nMul_ap : nMul (.int i) (.int j) H Q = (CMul i j ∧ Q (.int (i * j)) H) := by simp [nMul, rI]
theorem nMulW_ap : nMulW (.int i) (.int j) H Q = (CMulW i j ∧ Q (.int (i * j)) H) := by simp [nMulW, rI]
theorem nDiv_ap : nDiv (.int i) (.int j) H Q = (CDiv i j ∧ Q (.int (i / j)) H) := by simp [nDiv, rI]
theorem nMod_ap : nMod (.int i) (.int j) H Q = (0 < j ∧ Q (.int (i % j)) H) := by simp [nMod, rI]
theorem nPow_ap : nPow (.int i) (.int j) H Q = (CPow i j ∧ Q (.int (i ^ j.toNat)) H) := by simp [nPow, rI]
theorem nNeg_ap : nNeg (.int i) H Q = Q (.int (-i)) H := by simp [nNeg, rU]
theorem nMax_ap : nMax [.int i, .int j] H Q = Q (.int (max i j)) H := by
  have e : (if j > i then j else i) = max i j := by split <;> omega
  apply propext
  constructor
  · rintro ⟨a, b, h, q⟩
    cases h
    rw [e] at q
    exact q
  · intro q
    exact ⟨i, j, rfl, by rw [e]; exact q⟩
theorem nMin_ap : nMin [.int i, .int j] H Q = Q (.int (min i j)) H := by
  have e : (if j < i then j else i) = min i j := by split <;> omega
  apply propext
  constructor
  · rintro ⟨a, b, h, q⟩
    cases h
    rw [e] at q
    exact q
  · intro q
    exact ⟨i, j, rfl, by rw [e]; exact q⟩
theorem rEq_ap : rEq (.int i) (.int j) H Q = Q (.bl (decide (i = j))) H := by simp [rEq, scal]
theorem rNe_ap : rNe (.int i) (.int j) H Q = Q (.bl (!decide (i = j))) H := by simp [rNe, scal]
theorem nIs_ap : nIs x .non H Q = Q (.bl (decide (x = .non))) H := by simp [nIs]
theorem nIsNot_ap : nIsNot x .non H Q = Q (.bl (!decide (x = .non))) H := by simp [nIsNot]
theorem ex_bl {b : Bool} {p : Bool → Prop} : (∃ x, V.bl b = V.bl x ∧ p x) = p b := by simp
theorem ex_int {b : Int} {p : Int → Prop} : (∃ x, V.int b = V.int x ∧ p x) = p b := by simp
theorem ex_some {a : V} {p : V → Prop} : (∃ x, (some (some a) : Option (Option V)) = some (some x) ∧ p x) = p a := by simp
theorem dec_int_non : decide (V.int i = V.non) = false := rfl
theorem dec_ref_non {p : Addr} : decide (V.ref p = V.non) = false := rfl
theorem dec_non_non : decide (V.non = V.non) = true := rfl
theorem nLen_ap {p : Addr} {ys : List V} (h : SqL K H p ys) (q : Q (.int ys.length) H) : nLen K [.ref p] H Q := ⟨p, ys, rfl, .inl h, q⟩
def nFld (K : PySem.W.Frag) (f : Str) (x : V) (H : Hp) (Q : VK) : Prop := ∃ a C dx fs v, x = V.ref a ∧ H a = some (.ins C dx fs) ∧ Cls K C ∧ NoAttr K C f ∧ fs.lookup f = some v ∧ Q v H
theorem tFld_ap {ta : TE} {f : Str} : tFld K ta f σ H Q = ta σ H fun x H1 => nFld K f x H1 Q := rfl
theorem isi_int_int : rIsi K [.int i, .ty "int"] H Q = Q (.bl true) H := by
  apply propext
  constructor
  · rintro ⟨x, c, t, u, b, e, k, ty, ki, q⟩
    cases e
    cases k
    cases ty with
    | base h => cases h; cases (show PySem.W.kitOne K (.type "int") (.type "int") = some true from kit_ty (by decide +kernel)).symm.trans ki; exact q
  · intro q
    exact ⟨_, _, _, _, true, rfl, .ty _, .base (.int i), kit_ty (by decide +kernel), q⟩
theorem isi_int_bool : rIsi K [.int i, .ty "bool"] H Q = Q (.bl false) H := by
  apply propext
  constructor
  · rintro ⟨x, c, t, u, b, e, k, ty, ki, q⟩
    cases e
    cases k
    cases ty with
    | base h => cases h; cases (show PySem.W.kitOne K (.type "int") (.type "bool") = some false from kit_ty (by decide +kernel)).symm.trans ki; exact q
  · intro q
    exact ⟨_, _, _, _, false, rfl, .ty _, .base (.int i), kit_ty (by decide +kernel), q⟩
theorem ite_tt' {A B : Prop} : (if true = true then A else B) = A := by simp
theorem ite_ff' {A B : Prop} : (if false = true then A else B) = B := by simp
end
theorem same_new {H : Hp} {p : Addr} (h : H p = none) (o : HO) : Same H (upd H p o) := fun b u q => by rw [upd_ne (ne_of_none q h)]; exact q
def Ins (H H' : Hp) : Prop := ∀ b C dx fs, H b = some (.ins C dx fs) → H' b = some (.ins C dx fs)
theorem Ins.refl (H : Hp) : Ins H H := fun _ _ _ _ h => h
theorem Ins.trans {H H1 H2 : Hp} (a : Ins H H1) (b : Ins H1 H2) : Ins H H2 := fun x C dx fs h => b x C dx fs (a x C dx fs h)
theorem Ins.lst {H : Hp} {p : Addr} {xs : List V} (h : H p = some (.lst xs)) (ys : List V) : Ins H (upd H p (.lst ys)) := fun b C dx fs q => by
  rw [upd_ne (ne_of q h (by intro z; cases z))]
  exact q
theorem ref_non {p : Addr} : (V.ref p = V.non) = False := by simp
theorem int_non {i : Int} : (V.int i = V.non) = False := by simp
theorem non_ref {p : Addr} : (V.non = V.ref p) = False := by simp
theorem non_int {i : Int} : (V.non = V.int i) = False := by simp
theorem size_of {n : Nat} (h : n ≤ 16000000) : n < sizeLine := Nat.lt_of_le_of_lt h (by decide)
theorem wipe_one {σ : L2.St} {i : Nat} {x : V} : wipe ((wipe σ [i]).set i (some x)) [i] = wipe σ [i] := by
  simp [wipe, List.set_set]
theorem take_more {α : Type} {l : List α} {i : Nat} {x : α} (h : l[i]? = some x) : l.take (i + 1) = l.take i ++ [x] := by
  rw [List.take_add_one, h]
  rfl
def nLc (K : PySem.W.Frag) (elt : TE) (i : Nat) (σ : L2.St) (x : V) (H : Hp) (Q : VK) : Prop := tLc (iList K (tC x)) (gName i) tYes elt [i] σ H Q
theorem tLc_ap {K : PySem.W.Frag} {te elt : TE} {i : Nat} {σ : L2.St} {H : Hp} {Q : VK} : tLc (iList K te) (gName i) tYes elt [i] σ H Q = te σ H fun x H1 => nLc K elt i σ x H1 Q := rfl
def nLcR (elt : TE) (i : Nat) (σ : L2.St) (vs : List V) (H : Hp) (Q : VK) : Prop := tLc (iRng1 fun _ H Q => Q vs H) (gName i) tYes elt [i] σ H Q
theorem tLcR_ap {ta : TA} {elt : TE} {i : Nat} {σ : L2.St} {H : Hp} {Q : VK} : tLc (iRng1 ta) (gName i) tYes elt [i] σ H Q = ta σ H fun vs H1 => nLcR elt i σ vs H1 Q := rfl
theorem dp_ints {K : PySem.W.Frag} {H : Hp} : ∀ xs : List Int, DpAll K H (xs.map V.int) (xs.map PyData.int)
  | [] => .nil
  | x :: r => .cons (.int x) (dp_ints r)
theorem ty_lst {K : PySem.W.Frag} {H : Hp} {p : Addr} {xs : List V} (h : H p = some (.lst xs)) : tyV K "list" (.ref p) H := Or.inl ⟨rfl, _, SqL.of h⟩
theorem app_ap {H : Hp} {Q : VK} {p : Addr} {xs : List V} {y : V} (h : H p = some (.lst xs)) (hz : xs.length ≤ 16000000) (q : Q .non (upd H p (.lst (xs ++ [y])))) : rAppend (.ref p) [y] H Q :=
  ⟨p, xs, y, rfl, rfl, h, size_of hz, q⟩
theorem ixL_ap {K : PySem.W.Frag} {H : Hp} {Q : VK} {p : Addr} {xs : List V} {j : Nat} {v : V} (h : SqL K H p xs) (hj : xs[j]? = some v) (q : Q v H) : rIxL K (.ref p) (.int j) H Q :=
  ⟨p, xs, j, v, rfl, rfl, h, atI_nat hj, q⟩
theorem ixT_ap {K : PySem.W.Frag} {H : Hp} {Q : VK} {p : Addr} {xs : List V} {j : Nat} {v : V} (h : SqT K H p xs) (hj : xs[j]? = some v) (q : Q v H) : rIxT K (.ref p) (.int j) H Q :=
  ⟨p, xs, j, v, rfl, rfl, h, atI_nat hj, q⟩
def nFor (K : PySem.W.Frag) (i : Nat) (tb : TS) (x : V) (D : Ends) (σ : L2.St) (H : Hp) : Prop := tFor (iList K (tC x)) (gName i) tb D σ H
theorem tFor_ap {K : PySem.W.Frag} {te : TE} {i : Nat} {tb : TS} {D : Ends} {σ : L2.St} {H : Hp} : tFor (iList K te) (gName i) tb D σ H = te σ H fun x H1 => nFor K i tb x D σ H1 := rfl
theorem slL_ap {K : PySem.W.Frag} {H : Hp} {Q : VK} {p : Addr} {xs : List V} {lo hi : Option Int} (h : SqL K H p xs) (q : ∀ r, H r = none → Q (.ref r) (upd H r (.lst (cutV xs lo hi)))) : rSlL K (.ref p) lo hi H Q := ⟨p, xs, rfl, h, q⟩
def nForR (i : Nat) (tb : TS) (vs : List V) (D : Ends) (σ : L2.St) (H : Hp) : Prop := tFor (iRng1 fun _ H Q => Q vs H) (gName i) tb D σ H
theorem tForR_ap {ta : TA} {i : Nat} {tb : TS} {D : Ends} {σ : L2.St} {H : Hp} : tFor (iRng1 ta) (gName i) tb D σ H = ta σ H fun vs H1 => nForR i tb vs D σ H1 := rfl
def nForR2 (i : Nat) (tb : TS) (vs : List V) (D : Ends) (σ : L2.St) (H : Hp) : Prop := tFor (iRng2 fun _ H Q => Q vs H) (gName i) tb D σ H
theorem tForR2_ap {ta : TA} {i : Nat} {tb : TS} {D : Ends} {σ : L2.St} {H : Hp} : tFor (iRng2 ta) (gName i) tb D σ H = ta σ H fun vs H1 => nForR2 i tb vs D σ H1 := rfl
end RB
namespace RB
open PySem PySem.Spec PyProof.Rows L2 LamX NdefX
def lamAr : Expr → Arguments
  | .Lambda a _ _ _ => a
  | _ => ⟨[], [], none, [], [], none, []⟩
def lamE : Expr → Expr
  | .Lambda _ e _ _ => e
  | e => e
def lamSc : Expr → Scope
  | .Lambda _ _ s _ => s
  | _ => ⟨.function, [], false, false, []⟩
structure LF where
  q : Str
  l : Expr
  cl : List (Str × Addr)
  c : Addr
def LF.fd (F : LF) (pm ctv : Value) : FuncData := PySem.W.kla_fn "<lambda>" F.q (lamAr F.l) (lamE F.l) (lamSc F.l) F.cl pm (.ref F.c) ctv
structure GL (f : Addr) (F : LF) (fr : List Str) (ws : List (Option V)) (outer : List Env) (s : Shared) (H : Hp) : Prop where
  at_ : ∃ pm ctv : Value, s.heap.get? f = some ({ cls := .type "function", data := .func (F.fd pm ctv) } : Obj)
  free : H f = none
  nofr : f ∉ frs outer
  cells : CellsAt F.cl fr ws s.heap H
  cfr : ∀ y c, F.cl.lookup y = some c → c ∉ frs outer
section
variable {P : Program} {w : World} {K : PySem.W.Frag} {mg : Str → Option Value} {base : Heap} {f : Addr} {F : LF} {ps fr N : List Str} {ws : List (Option V)} {sp : Sp} {k j : Nat}
structure LOk (P : Program) (w : World) (K : PySem.W.Frag) (mg : Str → Option Value) (base : Heap) (k : Nat) (f : Addr) (F : LF) (fr : List Str) (ws : List (Option V)) (sp : Sp) : Prop where
  run : ∀ (A : Around) (outer : List Env) (s : Shared) (H : Hp) (us : List Value) (vs : List V) (Q : VK) (E : XK), Room k A → Env0 P w K mg base A outer s H → GL f F fr ws outer s H → H F.c = some (CodeO F.c F.q) → Vals vs us → sp vs H Q E →
    codeAny (model P w) A (.call (.ref f) ⟨us, []⟩) (CR (L2.CX P w) outer P w H s Q E) s
theorem LOk.mono (o : LOk P w K mg base j f F fr ws sp) (h : j ≤ k) : LOk P w K mg base k f F fr ws sp := ⟨fun A outer s H us vs Q E hr => o.run A outer s H us vs Q E (hr.mono h)⟩
structure CalG (P : Program) (w : World) (K : PySem.W.Frag) (mg : Str → Option Value) (base : Heap) (k : Nat) (x : Str) (ps : List Str) (g : List Env → Shared → Hp → Prop) (sp : Sp) : Prop where
  ex : ∃ (fa : Addr) (fd : FuncData), (∀ (A : Around) (outer : List Env) (s : Shared) (H : Hp) (args : Args) (us : List Value) (vs : List V) (Q : VK) (E : XK), Room k A → Env0 P w K mg base A outer s H → g outer s H → BindsTo s fd args (ps.zip us) → Vals vs us → sp vs H Q E →
      codeAny (model P w) A (.call (.ref fa) args) (CR (L2.CX P w) outer P w H s Q E) s) ∧ (∀ vs H Q E, sp vs H Q E → vs.length = ps.length) ∧ mg x = some (.ref fa) ∧ PySem.W.keepIn K (.ref fa) = true ∧ Binds K fd ps []
variable {g : List Env → Shared → Hp → Prop} {x : Str} {st : Stmt}
theorem CalG.mono (C : CalG P w K mg base j x ps g sp) (h : j ≤ k) : CalG P w K mg base k x ps g sp := by
  obtain ⟨fa, fd, run, r⟩ := C.ex
  exact ⟨fa, fd, fun A outer s H args us vs Q E hr => run A outer s H args us vs Q E (hr.mono h), r⟩
end
structure LF.Is (F : LF) (q : Str) (l : Expr) : Prop where
  q : F.q = q
  l : F.l = l
structure CalD (P : Program) (w : World) (K : PySem.W.Frag) (mg : Str → Option Value) (base : Heap) (k : Nat) (x : Str) (ps : List Str) (dvs : List V) (sp : Sp) : Prop where
  ex : ∃ f fd, FnOk P w K mg base (L2.CX P w) k f fd ps sp ∧ mg x = some (.ref f) ∧ PySem.W.keepIn K (.ref f) = true ∧ Binds K fd ps [] ∧ ∃ ds, Vals dvs ds ∧ Binds K fd ps ds
structure DefAtD (K : PySem.W.Frag) (mg : Str → Option Value) (x : Str) (st : Stmt) (ps : List Str) (dvs : List V) : Prop where
  ex : ∃ f fd, FunD K x x (defArgs st) (defBody st) (defScope st) dvs [] f fd ∧ mg x = some (.ref f) ∧ Binds K fd ps [] ∧ ∃ ds, Vals dvs ds ∧ Binds K fd ps ds
section
variable {P : Program} {w : World} {K : PySem.W.Frag} {mg : Str → Option Value} {base : Heap} {k j : Nat} {x : Str} {ps N : List Str} {dvs : List V} {sp : Sp} {st : Stmt}
theorem CalD.cal (C : CalD P w K mg base k x ps dvs sp) : Cal P w K mg base k x ps sp := by
  obtain ⟨f, fd, F, hm, hk, hb, _⟩ := C.ex
  exact ⟨f, fd, F, hm, hk, hb⟩
theorem CalD.mono (C : CalD P w K mg base j x ps dvs sp) (h : j ≤ k) : CalD P w K mg base k x ps dvs sp := by
  obtain ⟨f, fd, F, r⟩ := C.ex
  exact ⟨f, fd, F.mono h, r⟩
theorem DefAtD.cal (D : DefAtD K mg x st ps dvs) (S : FnScope N ps (defScope st)) (len : ∀ vs H Q E, sp vs H Q E → vs.length = ps.length) (t : XK → TS)
    (der : ∀ (f : Addr) (cdv : Value) (A : Around) (outer : List Env) (s : Shared) (H : Hp) (E : XK), Room k (A.deeper (envOfC x (defScope st) s.heap.objs.size f cdv)) → PSs (cxOf (L2.CX P w) P w K mg base N x (defScope st) f cdv A outer s H E) (defBody st) (t E))
    (pure : ∀ vs H Q E, sp vs H Q E → t E { nx := fun _ H' => Q .non H', rt := Q } (start N vs) H) : CalD P w K mg base (k + 1) x ps dvs sp := by
  obtain ⟨f, fd, F, hm, hb, hd⟩ := D.ex
  exact ⟨f, fd, F.ok S len fun cdv A outer s H vs Q E hr h => ⟨t E, der f cdv A outer s H E hr, pure vs H Q E h⟩, hm, F.kp, hb, hd⟩
theorem DefAtD.none (D : DefAtD K mg x st ps dvs) (no : ∀ vs H Q E, ¬ sp vs H Q E) : CalD P w K mg base k x ps dvs sp := by
  obtain ⟨f, fd, F, hm, hb, hd⟩ := D.ex
  exact ⟨f, fd, ⟨fun vs H Q E h => absurd h (no vs H Q E), fun A outer s H args us vs Q E _ _ _ _ h => absurd h (no vs H Q E)⟩, hm, F.kp, hb, hd⟩
end
end RB
namespace RB
open PySem PySem.Spec PyProof.Rows L2
def t_l_whole (K : PySem.W.Frag) (E : XK) : TS :=
  (tRet (tAndV (tCB (rIsi K) (tCons (tVar 0) (tCons (tC (.ty "int")) tNil))) (tNotV (tCB (rIsi K) (tCons (tVar 0) (tCons (tC (.ty "bool")) tNil))))))
def t_l_cell_at (K : PySem.W.Frag) (E : XK) : TS :=
  (tSeq (tIfS (tTest (tOp nLt (tVar 1) (tCB (nLen K) (tCons (tVar 0) tNil)))) (tRet (tOp (rIxL K) (tVar 0) (tVar 1))) tNext)
    (tRet (tC (.int 0))))
end RB
namespace RB
open PySem PySem.Spec PyProof.Rows L2
inductive T where
  | leaf (m t l mo : Int)
  | node (m t l mo : Int) (a b : T)
namespace T
def ht : T → Nat
  | leaf _ _ _ _ => 0
  | node _ _ _ _ a b => max a.ht b.ht + 1
end T
def flds (m t l o L R : V) : List (Str × V) := [("many", m), ("total", t), ("least", l), ("more", o), ("left", L), ("right", R)]
def TreeAt (C : Addr) (H : Hp) : Addr → T → Prop
  | p, .leaf m t l o => ∃ dx, H p = some (.ins C dx (flds (.int m) (.int t) (.int l) (.int o) .non .non))
  | p, .node m t l o a b => ∃ dx pa pb, H p = some (.ins C dx (flds (.int m) (.int t) (.int l) (.int o) (.ref pa) (.ref pb))) ∧ TreeAt C H pa a ∧ TreeAt C H pb b
theorem TreeAt.ins {C : Addr} {H H' : Hp} (s : Ins H H') : ∀ {t : T} {p : Addr}, TreeAt C H p t → TreeAt C H' p t
  | .leaf _ _ _ _, _, ⟨dx, h⟩ => ⟨dx, s _ _ _ _ h⟩
  | .node _ _ _ _ _ _, _, ⟨dx, pa, pb, h, ha, hb⟩ => ⟨dx, pa, pb, s _ _ _ _ h, ha.ins s, hb.ins s⟩
end RB
namespace RB
open PySem PySem.Spec PyProof.Rows L2
local macro_rules | `(tactic| walk_at "ev") => `(tactic| try simp only [tSeq, tIfS, tTest, tNot, tAnd, tOr, tB, tOp, tUn, tVar, tC, tRet, tAsg, gName, tNext, tCB, tCons, tNil, tDrop, tRaise, tChain, tChain3, tAndV, tOrV, tNotV, tIf, tCall, tFld_ap, tLc_ap, tLcR_ap, tFor_ap, tForR_ap, tForR2_ap, nTry, nTryAs, tCallS, tKnown, tBM, gSub, tSl, tNoPart, tPart, tLst, tTup, wipe,
  List.getElem?_cons_zero, List.getElem?_cons_succ, List.set_cons_zero, List.set_cons_succ, ex_some, ex_bl, ex_int, List.nil_append, List.cons_append, List.append_nil,
  nAdd_ap, nSub_ap, nLt_ap, nLe_ap, nGt_ap, nGe_ap, nMul_ap, nMulW_ap, nDiv_ap, nMod_ap, nPow_ap, nNeg_ap, nMax_ap, nMin_ap, rEq_ap, rNe_ap, nIs_ap, nIsNot_ap, dec_int_non, dec_ref_non, dec_non_non, ref_non, int_non, non_ref, non_int, isi_int_int, isi_int_bool,
  decide_eq_true_eq, Bool.not_eq_true', decide_eq_false_iff_not, decide_true, decide_false, Bool.not_true, Bool.not_false, ite_tt', ite_ff', Bool.false_eq_true, Bool.true_eq_false, not_true_eq_false, not_false_eq_true, if_true, if_false])
section
variable {K : PySem.W.Frag} {C : Addr}
theorem n1 : ¬ (("many" : Str) = "total") := by decide +kernel
end
end RB
namespace RB
open PySem PySem.Spec PyProof.Rows L2
local macro_rules | `(tactic| walk_at "ev") => `(tactic| try simp only [tSeq, tIfS, tTest, tNot, tAnd, tOr, tB, tOp, tUn, tVar, tC, tRet, tAsg, gName, tNext, tCB, tCons, tNil, tDrop, tRaise, tChain, tChain3, tAndV, tOrV, tNotV, tIf, tCall, tFld_ap, tLc_ap, tLcR_ap, tFor_ap, tForR_ap, tForR2_ap, nTry, nTryAs, tCallS, tKnown, tBM, gSub, tSl, tNoPart, tPart, tLst, tTup, wipe,
  List.getElem?_cons_zero, List.getElem?_cons_succ, List.set_cons_zero, List.set_cons_succ, ex_some, ex_bl, ex_int, List.nil_append, List.cons_append, List.append_nil,
  nAdd_ap, nSub_ap, nLt_ap, nLe_ap, nGt_ap, nGe_ap, nMul_ap, nMulW_ap, nDiv_ap, nMod_ap, nPow_ap, nNeg_ap, nMax_ap, nMin_ap, rEq_ap, rNe_ap, nIs_ap, nIsNot_ap, dec_int_non, dec_ref_non, dec_non_non, ref_non, int_non, non_ref, non_int, isi_int_int, isi_int_bool,
  decide_eq_true_eq, Bool.not_eq_true', decide_eq_false_iff_not, decide_true, decide_false, Bool.not_true, Bool.not_false, ite_tt', ite_ff', Bool.false_eq_true, Bool.true_eq_false, not_true_eq_false, not_false_eq_true, if_true, if_false])
section
variable {K : PySem.W.Frag} {C : Addr}
def sp_l_whole : Sp := fun vs H Q _ => ∃ i : Int, vs = [.int i] ∧ Q (.bl true) H
theorem l_whole_ap {i : Int} {H : Hp} {Q : VK} {E : XK} : sp_l_whole [.int i] H Q E = Q (.bl true) H := by
  unfold sp_l_whole
  apply propext
  constructor
  · rintro ⟨j, e, q⟩
    exact q
  · intro q
    exact ⟨i, rfl, q⟩
theorem p_l_whole (vs : List V) (H : Hp) (Q : VK) (E : XK) (h : sp_l_whole vs H Q E) :
    t_l_whole K E { nx := fun _ H' => Q .non H', rt := Q } (start ["_law_found"] vs) H := by
  obtain ⟨i, rfl, q⟩ := h
  show t_l_whole K E _ [some (.int i)] H
  unfold t_l_whole
  walk_at "ev"
  exact q
def cell (ns : List Int) (k : Nat) : Int := ns.getD k 0
def sp_l_cell_at (K : PySem.W.Frag) : Sp := fun vs H Q _ => ∃ (a : Addr) (ns : List Int) (k : Nat), vs = [.ref a, .int (k : Nat)] ∧ SqL K H a (ns.map V.int) ∧ Q (.int (cell ns k)) H
theorem p_l_cell_at (vs : List V) (H : Hp) (Q : VK) (E : XK) (h : sp_l_cell_at K vs H Q E) :
    t_l_cell_at K E { nx := fun _ H' => Q .non H', rt := Q } (start ["_law_script", "_law_k"] vs) H := by
  obtain ⟨a, ns, k, rfl, hS, q⟩ := h
  show t_l_cell_at K E _ [some (.ref a), some (.int k)] H
  unfold t_l_cell_at
  walk_at "ev"
  refine nLen_ap hS ?_
  walk_at "ev"
  rw [List.length_map]
  split
  · rename_i hk
    have hk' : k < ns.length := by omega
    refine ⟨a, _, _, _, rfl, rfl, hS, atI_nat (j := k) (by rw [List.getElem?_map, List.getElem?_eq_getElem hk']; rfl), ?_⟩
    have e : cell ns k = ns[k] := by
      unfold cell
      rw [List.getD_eq_getElem?_getD, List.getElem?_eq_getElem hk']
      rfl
    rw [e] at q
    exact q
  · have e : cell ns k = 0 := by
      unfold cell
      rw [List.getD_eq_getElem?_getD, List.getElem?_eq_none (by omega)]
      rfl
    rw [e] at q
    exact q
end
end RB
namespace RB
open PySem PySem.Spec PyProof.Rows L2 LamX NdefX
section
variable {K : PySem.W.Frag} {h : Heap} {mg : Str → Option Value} {x q : Str} {st : Stmt} {ps : List Str} {f C : Addr} {od an : Option Addr} {osl : Array (Option Value)} {oc kV doc pm cdv ct : Value}
theorem DefAt.mk' (X : K.In h) (G : h.Ns mainGlobals mg) (a : PySem.W.nsIn K mainGlobals x = some (some (.ref f))) (l : K.lookup f = some ⟨oc, od, .func (PySem.W.fnOf x x (defArgs st) (defBody st) (defScope st) .none kV doc pm an cdv ct), osl⟩)
    (c : PySem.W.codeIn K cdv x = true) (k : PySem.W.keepIn K (.ref f) = true)
    (b : ∀ (kV doc pm : Value) (an : Option Addr) (cdv ct : Value) (us : List Value), us.length = ps.length → bindArgs (PySem.W.fnOf x x (defArgs st) (defBody st) (defScope st) .none kV doc pm an cdv ct) ⟨us, []⟩ = pure (ps.zip us)) : DefAt K mg x st ps :=
  ⟨f, _, fun_mk l c k, PySem.W.mg_of X G a, (fun_mk l c k).binds b⟩
theorem ExcAt.mk' (X : K.In h) (G : h.Ns mainGlobals mg) (a : PySem.W.nsIn K mainGlobals x = some (some (.ref C)))
    (q : PySem.W.excIn K C [.type "ValueError", .type "Exception", .type "BaseException", .type "object"] "ValueError.__new__" = true) (k : PySem.W.keepIn K (.ref C) = true)
    (b : PySem.W.subIn K (.ref C) (.type "BaseException") = some true) (t : PySem.W.typeIn K (.ref C) = some (.type "type")) : ExcAt K mg x C := ⟨PySem.W.mg_of X G a, q, k, b, t⟩
structure MkAt (K : PySem.W.Frag) (mg : Str → Option Value) (x q : Str) (C : Addr) (st : Stmt) (ps : List Str) : Prop where
  ex : ∃ f fd, Mk K C f ∧ Fun K "__init__" q st f fd ∧ mg x = some (.ref C) ∧ Binds K fd ps []
variable {P : Program} {w : World} {base : Heap} {N : List Str} {sp : Sp} {n : Nat}
theorem MkAt.cal (D : MkAt K mg x q C st ps) (S : FnScope N ps (defScope st)) (len : ∀ vs H Q E, sp vs H Q E → vs.length = ps.length) (t : XK → TS)
    (der : ∀ (f : Addr) (cdv : Value) (A : Around) (outer : List Env) (s : Shared) (H : Hp) (E : XK), Room n (A.deeper (envOfC q (defScope st) s.heap.objs.size f cdv)) → PSs (cxOf (L2.CX P w) P w K mg base N q (defScope st) f cdv A outer s H E) (defBody st) (t E))
    (pure : ∀ vs H Q E, sp vs H Q E → t E { nx := fun _ H' => Q .non H', rt := Q } (start N vs) H) : CalMk P w K mg base (n + 1) x C ps sp := by
  obtain ⟨f, fd, M, F, hm, hb⟩ := D.ex
  exact ⟨f, fd, M, F.okX S len fun cdv A outer s H vs Q E hr h => ⟨t E, der f cdv A outer s H E hr, pure vs H Q E h⟩, hm, hb⟩
theorem Fun.fn {fd : FuncData} (F : Fun K x q st f fd) (S : FnScope N ps (defScope st)) (len : ∀ vs H Q E, sp vs H Q E → vs.length = ps.length) (t : XK → TS)
    (der : ∀ (f : Addr) (cdv : Value) (A : Around) (outer : List Env) (s : Shared) (H : Hp) (E : XK), Room n (A.deeper (envOfC q (defScope st) s.heap.objs.size f cdv)) → PSs (cxOf (L2.CX P w) P w K mg base N q (defScope st) f cdv A outer s H E) (defBody st) (t E))
    (pure : ∀ vs H Q E, sp vs H Q E → t E { nx := fun _ H' => Q .non H', rt := Q } (start N vs) H) : FnOk P w K mg base (L2.CX P w) (n + 1) f fd ps sp :=
  F.okX S len fun cdv A outer s H vs Q E hr h => ⟨t E, der f cdv A outer s H E hr, pure vs H Q E h⟩
theorem law_mk {k : Nat} {fa : Addr} (X : K.In h) (G : h.Ns mainGlobals mg) (hfa : mg "law" = some (.ref fa)) (a : PySem.W.nsIn K mainGlobals "law" = some (some (.ref f)))
    (l : K.lookup f = some ⟨oc, od, .func (PySem.W.fnOf "law" "law" (defArgs st) (defBody st) (defScope st) .none kV doc pm an cdv ct), osl⟩) (c : PySem.W.codeIn K cdv "law" = true) (kk : PySem.W.keepIn K (.ref f) = true)
    (b : ∀ (s : Shared) (v : Value), BindsTo s (PySem.W.fnOf "law" "law" (defArgs st) (defBody st) (defScope st) .none kV doc pm an cdv ct) ⟨[v], []⟩ [(x, v)])
    (run : ∀ (base : Heap) (fd : FuncData), Fun K "law" "law" st fa fd → FnOk P w K mg base (L2.CX P w) k fa fd [x] sp) :
    ∃ fd : FuncData, (∀ (s : Shared) (u : Value), BindsTo s fd ⟨[u], []⟩ [(x, u)]) ∧ ∀ base : Heap, K.In base → base.Ns mainGlobals mg → FnOk P w K mg base (L2.CX P w) k fa fd [x] sp := by
  have e := hfa.symm.trans (PySem.W.mg_of X G a)
  cases e
  exact ⟨_, b, fun base _ _ => run base _ (fun_mk l c kk)⟩
end
def sp_law (K : PySem.W.Frag) : Sp := fun vs H Q _ => ∃ (a : Addr) (ns : List Int), vs = [.ref a] ∧ SqL K H a (ns.map V.int) ∧ ns.length ≤ 63 ∧ ∀ H', Q (.bl true) H'
theorem walk {l : PySem.W.OpenLaw} {k : Nat} {q : Program} {loose : List Str} {XP : (Str → Option Value) → Heap → Prop} {YP : World → Heap → Prop} {d : DefRec} {K : Params → PySem.W.Frag} (hn : l.most = some 63) (hdf : d.params.defaults = []) (hr : Room k callerA)
    (hY : ∀ (w : World) (h : Heap), YP w h → (K w.params).In h)
    (F : ∀ (w : World) (mg : Str → Option Value) (fa : Addr) (h : Heap), (K w.params).In h → h.Ns mainGlobals mg → mg d.name = some (.ref fa) → XP mg h →
      ∃ fd : FuncData, (∀ (s : Shared) (u : Value), BindsTo s fd ⟨[u], []⟩ [("_law_script", u)]) ∧ ∀ base : Heap, (K w.params).In base → base.Ns mainGlobals mg → FnOk l.prog w (K w.params) mg base (L2.CX l.prog w) k fa fd ["_law_script"] (sp_law (K w.params))) :
    PySem.W.WalkO q loose XP YP l.row.toRowW d [] (fun f vs => PySem.call f vs) := by
  refine Att.attach_call (n := 63) hn hdf fun w s₀ s₁ mg mb fa o pm cd doc a vs ns G Y ho hd hcd hmg hobj hints hlen hg => ?_
  have KX := hY w _ Y
  obtain ⟨fd, hb, hF⟩ := F w mg fa _ KX G.T.g hmg G.X
  refine law_call KX G.T.g G.T.b G.T.builtins G.T.nolimit hg hobj hints (Nat.le_trans hlen (by decide)) hr hF hb (fun H hO hS => ⟨a, ns, rfl, hS, hlen, fun _ => rfl⟩) fun H e s' h => ?_
  obtain ⟨_, _, _, _, _, _, _, _, _, _, _, _, z⟩ := h
  exact z.elim
structure DefAtL (K : PySem.W.Frag) (mg : Str → Option Value) (x : Str) (st : Stmt) (ps : List Str) (ca : Addr) : Prop where
  ex : ∃ f fd, Fun K x x st f fd ∧ mg x = some (.ref f) ∧ Binds K fd ps [] ∧ fd.code = .ref ca
theorem DefAtL.cal {P : Program} {w : World} {K : PySem.W.Frag} {mg : Str → Option Value} {base : Heap} {n : Nat} {x : Str} {st : Stmt} {ps N : List Str} {ca : Addr} {sp : Sp} (D : DefAtL K mg x st ps ca) (S : FnScope N ps (defScope st)) (len : ∀ vs H Q E, sp vs H Q E → vs.length = ps.length) (t : XK → TS)
    (der : ∀ (f : Addr) (A : Around) (outer : List Env) (s : Shared) (H : Hp) (E : XK), Room n (A.deeper (envOfC x (defScope st) s.heap.objs.size f (.ref ca))) → PSs (cxOf (L2.CX P w) P w K mg base N x (defScope st) f (.ref ca) A outer s H E) (defBody st) (t E))
    (pure : ∀ vs H Q E, sp vs H Q E → t E { nx := fun _ H' => Q .non H', rt := Q } (start N vs) H) : Cal P w K mg base (n + 1) x ps sp := by
  obtain ⟨f, fd, F, hm, hb, hcode⟩ := D.ex
  refine ⟨f, fd, ⟨len, fun A outer s H args us vs Q E hr e0 hbt r hsp => ?_⟩, hm, F.kp, hb⟩
  obtain ⟨oc, od, kV, doc, pm, an, cdv, ct, osl, rfl, lk, hcd⟩ := F.ex
  obtain rfl : cdv = .ref ca := hcode
  exact run_ofS lk hcd S hr e0 hbt r (len _ _ _ _ hsp) fun hr' => ⟨t E, der _ _ _ _ _ _ hr', pure _ _ _ _ hsp⟩
end RB
namespace RB
open PySem PySem.Spec PyProof.Rows L2 LamX NdefX
section
variable {M : Model} {A : Around} {V1 : Value → Shared → Prop} {s : Shared} {e1 : Env} {l1 : List Env} {B : Heap} {a L : Addr} {Z : Obj → Prop}
theorem note_fl {fl : Value} {R : Unit → Shared → Prop} (zz : HandSPX.Steady Z) (fr : A.frames = some (e1 :: l1)) (ef : e1.frame = some L) (bs : B.StaysIn s.heap) (ba : B.get? a = none) (ff : s.heap.FunFrames B (e1 :: l1)) (tr : HandSPX.TracedZ s.heap B a Z fl)
    (q : ∀ h', HandSPX.HeldZ B (e1 :: l1) a Z L h' → s.heap.UpToSlots h' → R () { s with heap := h' }) : wpAny M A (noteFrame (.ref a) e1) R V1 s := by
  by_cases same : fl = rawInt L
  · subst same
    exact HandSPX.againZ ef tr (q s.heap ⟨bs, ba, ff, tr⟩ (Heap.UpToSlots.refl _))
  · obtain ⟨oe, vs, T, oT, ts, x1, x2, x3, x4, x5, x6, x7, x8, x9⟩ := tr
    unfold noteFrame
    simp only [ef]
    refine wpAny_bind (wpAny_field x1 x3 x4 ?_)
    rw [if_pos (by simp)]
    refine wpAny_bind (wpAny_field x7 x8 x9 ?_)
    rw [if_neg (by simpa using same)]
    refine wpAny_bind (wpAny_setField x7 x8 (Array.getElem?_eq_some_iff.mp x9).1 ?_)
    have far : ∀ b, b ≠ T → (s.heap.update T (Obj.mapFields (·.setIfInBounds 3 Value.none))).get? b = s.heap.get? b := fun b z => Heap.get?_update_other _ _ (Ne.symm z)
    have nf : ∀ b o, s.heap.get? b = some o → (∀ vs, o.data ≠ .fields vs) → b ≠ T := fun b o eb nn z => by
      rw [z, x7] at eb
      cases eb
      exact nn ts x8
    refine HandSPX.wpAny_entryZ zz fr (ff.of_keeps fun b o eb nn => ⟨o, (far b (nf b o eb nn)).trans eb, rfl⟩) ef ((far a (Ne.symm x6)).trans x1) (fun b o eb => (far b fun z => by rw [z, x5] at eb; cases eb).trans (bs b o eb)) ba x3 (Array.getElem?_eq_some_iff.mp x4).1 x2 fun h' hN => ?_
    exact q h' ⟨hN.1, ba, hN.2.1, hN.2.2.1⟩ fun b o eb nn => hN.2.2.2 b o ((far b (nf b o eb nn)).trans eb) nn
theorem ff_drop {h1 h2 B' : Heap} (k : ∀ b, B.get? b = none → B'.get? b = none) : ∀ {l : List Env}, h1.FunFrames B l → (∀ b o, b ∈ frs l → h1.get? b = some o → h2.get? b = some o) → h2.FunFrames B' l
  | [], _, _ => trivial
  | e2 :: l2, ⟨g1, ⟨f, o, g2, g3, g4, g5⟩, g6⟩, n => ⟨g1, ⟨f, o, g2, k f g3, n f o (by unfold frs; rw [List.filterMap_cons, g2]; exact List.mem_cons_self) g4, g5⟩, ff_drop k g6 fun b o hb => n b o (by unfold frs at hb ⊢; rw [List.filterMap_cons, g2]; exact List.mem_cons_of_mem _ hb)⟩
end
section
variable {X : Cx} {E : XK} {pins : List (Addr × Obj)} {σ : L2.St} {H : Hp}
theorem leave_fl {E1 : Value → Shared → Prop} {sI s' : Shared} {B : Heap} {a : Addr} {cls fl : Value} {d : Option Addr} (hs : X.stack = X.env :: X.outer) (hf : X.env.frame = some X.env.locals) (hex : X.ex = []) (I : Inv X pins σ H sI)
    (nb : ∀ b o, sI.heap.get? b = some o → b ∉ frs X.stack → B.get? b = some o) (up : sI.heap.UpToSlots s'.heap) (bs : B.StaysIn s'.heap) (ba : B.get? a = none) (ff : s'.heap.FunFrames B (X.env :: X.outer)) (tr : HandSPX.TracedZ s'.heap B a (Zc cls d) fl)
    (na : H a = none) (os : s'.os = sI.os) (ag : AllBare s'.gens) (w : E cls d H) : wpAny (model X.prog X.w) X.A (leaving X.env (.ref a)) (fun _ s3 => CX X.prog X.w X.outer X.H_0 X.s_0 E (.ref a) s3) E1 s' := by
  have fr : X.A.frames = some (X.env :: X.outer) := by rw [I.ok.frames, hs]
  have nx : ∀ b, b ∉ X.ex := fun b z => by rw [hex] at z; cases z
  have low : ∀ b o, X.s_0.heap.get? b = some o → b ∉ X.fs → b ∉ frs X.stack := fun b o e n z => by
    rcases List.mem_cons.mp (I.stkSub b z) with y | y
    · rw [y] at e
      exact Nat.lt_irrefl _ (Nat.lt_of_lt_of_le (Heap.lt_size e) I.ok.above)
    · exact n y
  unfold leaving
  refine wpAny_bind (note_fl Zc.steady fr hf bs ba ff tr fun h4 held up4 => ?_)
  refine HandSPX.landsZ held fun h5 fl5 up5 => ?_
  have un := I.base
  refine ⟨a, B, H, cls, d, rfl, ⟨fl5.1, fl5.2.1, fl5.2.2.1.2.2, fl5.2.2.2⟩, I.inGround nb, ⟨fun b o e n z => nb b o (un.keep b o e n z (nx b)) (low b o e z), fun b o e z => ?_, fun b o e n => un.free b o e n (nx b), fun b o e z => ?_, un.tups, un.frzs, un.tbls⟩, na, os.trans I.os, ag, w⟩
  · obtain ⟨_, o2, e2, n2⟩ := I.ok.funs.mem z
    rw [e] at e2
    cases e2
    obtain ⟨l1, y1⟩ := un.slot b o e (I.ok.frf b z) z (nx b)
    obtain ⟨l2, y2⟩ := up b _ y1 n2
    obtain ⟨l3, y3⟩ := up4 b _ y2 n2
    obtain ⟨l4, y4⟩ := up5 b _ y3 n2
    exact ⟨l4, y4⟩
  · obtain ⟨o2, y⟩ := un.there b o e (nx b)
    exact ⟨o2, nb b o2 y (low b o e z)⟩
theorem comp_fail {E1 : Value → Shared → Prop} {s s2 : Shared} {C : Addr} {u acc : Value} {use : Option (Value → Sem Unit)} {Qf : Value → Shared → Prop} (hs : X.stack = X.env :: X.outer) (hf : X.env.frame = some X.env.locals) (hex : X.ex = [])
    (hx : X.xe = fun e s3 => wpAny (model X.prog X.w) X.A (leaving X.env e) (fun _ s4 => CX X.prog X.w X.outer X.H_0 X.s_0 E e s4) E1 s3) (I : Inv X pins σ H s) (fC : FpOk X pins H C) (nC : ∃ m, s.heap.Ns C m) (c : CX X.prog X.w X.stack H s E u s2) :
    notedBy (model X.prog X.w) X.A X.env (fun e s3 => compPost (model X.prog X.w) X.A X.xe use Qf acc C (.error e) s3) u s2 := by
  obtain ⟨a, B, H', cls, d, rfl, fl, hok, ub, na, os, ag, hE⟩ := c
  obtain ⟨m, oC, es, ep, eC, r⟩ := nC
  obtain ⟨c1, c2, c3, c4, c5, c6⟩ := fC
  have fr : X.A.frames = some (X.env :: X.outer) := by rw [I.ok.frames, hs]
  have cf : C ∉ frs X.stack := fun z => by
    rcases List.mem_cons.mp (I.stkSub C z) with y | y
    · exact c2 y
    · exact c3 y
  have bC : B.get? C = some oC := ub.keep C oC eC c1 cf
  have aC : a ≠ C := fun z => by
    have := fl.2.1
    rw [z, bC] at this
    cases this
  have hC : H' C = none := ub.free C oC eC c1
  show wpAny _ _ (noteFrame (.ref a) X.env) _ _ s2
  refine HandSPX.looks_onZ Zc.steady fr hf (by rw [← hs]; exact fl) fun h1 held up1 => ?_
  have key : ∃ m, h1.Ns C m ∧ ∀ h', Heap.SameBut C h1 h' → ∀ ce : Env, ce.locals = C → wpAny (model X.prog X.w) X.A (passOn "comprehension.variables-let-go" (.ref a) ce : Sem Value) (fun _ _ => False) X.xe { s2 with heap := h' } := by
    refine ⟨m, ⟨oC, es, ep, held.1 C oC bC, r⟩, fun h2 sb ce _ => ?_⟩
    obtain ⟨B', b1, b2⟩ := restrict B fun b => decide (b ≠ C)
    have toB : ∀ b o, B.get? b = some o → b ≠ C → B'.get? b = some o := fun b o e n => by rw [b1 b (decide_eq_true n)]; exact e
    have ofB : ∀ b o, B'.get? b = some o → b ≠ C ∧ B.get? b = some o := fun b o e => by
      by_cases n : b = C
      · rw [b2 b (decide_eq_false (fun z => z n))] at e
        cases e
      · exact ⟨n, by rw [← b1 b (decide_eq_true n)]; exact e⟩
    have noB : ∀ b, B.get? b = none → B'.get? b = none := fun b e => by
      cases z : B'.get? b with
      | none => rfl
      | some o => rw [(ofB b o z).2] at e; cases e
    obtain ⟨oe, vs, T, oT, ts, x1, x2, x3, x4, x5, x6, x7, x8, x9⟩ := held.2.2.2
    have nT : T ≠ C := fun z => by rw [z, bC] at x5; cases x5
    have t2 : HandSPX.TracedZ h2 B' a (Zc cls d) (rawInt X.env.locals) := ⟨oe, vs, T, oT, ts, (sb.2 a aC).trans x1, x2, x3, x4, noB T x5, x6, (sb.2 T nT).trans x7, x8, x9⟩
    have st2 : B'.StaysIn h2 := fun b o e => (sb.2 b (ofB b o e).1).trans (held.1 b o (ofB b o e).2)
    have ff2 : h2.FunFrames B' (X.env :: X.outer) := ff_drop noB held.2.2.1 fun b o hb e => (sb.2 b fun z => cf (by rw [hs, ← z]; exact hb)).trans e
    unfold PySem.passOn
    refine wpAny_bind (wpAny_field ((sb.2 a aC).trans x1) x3 x4 ?_)
    rw [if_neg (by simp)]
    obtain ⟨G, g1, g2⟩ := restrict s2.heap fun b => (B'.get? b).isSome || decide (b ∈ frs X.stack)
    have gB : ∀ b o, B'.get? b = some o → G.get? b = some o := fun b o e => by
      rw [g1 b (by simp [e])]
      exact fl.1 b o (ofB b o e).2
    have gF : ∀ b, b ∈ frs X.stack → G.get? b = s2.heap.get? b := fun b z => g1 b (by simp [z])
    have og : ∀ b o, G.get? b = some o → s2.heap.get? b = some o ∧ b ≠ C ∧ (b ∉ frs X.stack → B'.get? b = some o) := fun b o e => by
      cases q : ((B'.get? b).isSome || decide (b ∈ frs X.stack)) with
      | false => rw [g2 b q] at e; cases e
      | true =>
        rw [g1 b q] at e
        rcases Bool.or_eq_true_iff.mp q with q | q
        · obtain ⟨o2, y⟩ := Option.isSome_iff_exists.mp q
          have z := fl.1 b o2 (ofB b o2 y).2
          rw [e] at z
          cases z
          exact ⟨e, (ofB b o y).1, fun _ => y⟩
        · exact ⟨e, fun z => cf (z ▸ of_decide_eq_true q), fun z => absurd (of_decide_eq_true q) z⟩
    have hokG : HOk X.prog X.w H' G := fun b ob q => (hok b ob q).stay (fun c v hc y => gB c v (toB c v y (by
      rcases hc with rfl | hc
      · exact fun z => by rw [z, hC] at q; cases q
      · exact fun z => by rw [z, hC] at hc; cases hc))) (fun _ y => y) fun _ _ y => y
    have I2 : Inv X pins σ H' { s with heap := G, gens := s2.gens, drawn := s2.drawn, toks := s2.toks } := I.call (ch := [C]) ⟨fun b o e n z y => gB b o (toB b o (ub.keep b o e n z) (fun x => y (List.mem_singleton.mpr x))), fun b o e n z _ => by
        obtain ⟨sl, y⟩ := ub.slot b o e z
        exact ⟨sl, by rw [gF b z]; exact y⟩, fun b o e n _ => ub.free b o e n, fun b o e y => by
        by_cases z : b ∈ frs X.stack
        · obtain ⟨sl, x⟩ := ub.slot b o e z
          exact ⟨_, by rw [gF b z]; exact x⟩
        · obtain ⟨o2, x⟩ := ub.there b o e z
          exact ⟨o2, gB b o2 (toB b o2 x (fun w => y (List.mem_singleton.mpr w)))⟩, ub.tups, ub.frzs, ub.tbls⟩ hokG ag (fun b z => by
        rw [List.mem_singleton.mp z]
        exact ⟨c4, c2, c5, c6⟩)
    refine wpAny_bind (HandSPX.setFlight_anyZ st2 ff2 t2 fun h3 st3 ff3 t3 up3 => ?_)
    refine wpAny_throw ?_
    rw [hx]
    refine leave_fl hs hf hex I2 (fun b o e z => (og b o e).2.2 z) (fun b o e n => ?_) st3 (noB a fl.2.1) ff3 t3 na os ag hE
    obtain ⟨y1, y2, _⟩ := og b o e
    obtain ⟨l1, z1⟩ := up1 b o y1 n
    obtain ⟨l3, z3⟩ := up3 b _ ((sb.2 b y2).trans z1) n
    exact ⟨l3, z3⟩
  cases use <;> exact key
end
section
variable {X : Cx} {E : XK}
theorem lc_raise {E1 : Value → Shared → Prop} {pins : List (Addr × Obj)} {s : Shared} {σ : L2.St} {H : Hp} {Q : VK} {elt tg iter : Expr} {ifs : List Expr} {sc : Scope} {own : List (Str × Nat)} {pos pos2 : Pos} {wi : TI} {g : TG} {tt : TT} {te : TE} {use : Option (Value → Sem Unit)} {Qf : Value → Shared → Prop}
    (hs : X.stack = X.env :: X.outer) (hf : X.env.frame = some X.env.locals) (hex : X.ex = []) (hx : X.xe = fun e s3 => wpAny (model X.prog X.w) X.A (leaving X.env e) (fun _ s4 => CX X.prog X.w X.outer X.H_0 X.s_0 E e s4) E1 s3)
    (calm : X.calm = true) (nd : X.N.Nodup) (I : Inv X pins σ H s) (hi : PI X tg iter wi) (ok : BlkOk X.N X.env.scope sc own)
    (hg : ∀ (s : Shared) (H : Hp) (C : Addr) (cl : List (Str × Addr)) (fp : List Addr), PG (X.blk s H sc (compEnvC sc cl C X.env) fp) tg g)
    (ht : ∀ (s : Shared) (H : Hp) (C : Addr) (cl : List (Str × Addr)) (fp : List Addr), PTs (X.blk s H sc (compEnvC sc cl C X.env) fp) ifs tt)
    (he : ∀ (s : Shared) (H : Hp) (C : Addr) (cl : List (Str × Addr)) (fp : List Addr) (pn : List (Addr × Obj)) (xe : Value → Shared → Prop), Passes (L2.CX X.prog X.w) ((X.blk s H sc (compEnvC sc cl C X.env) fp).tr pn xe) E → PE ((X.blk s H sc (compEnvC sc cl C X.env) fp).tr pn xe) elt te)
    (hfo : ∀ x, foldedSetIterable iter X.env x = pure x) (h : tLc wi g tt te (own.map (·.2)) σ H Q)
    (fin : ∀ D C s' m H', Inv X pins σ H' s' → Q (.ref D) H' → s'.heap.Ns C m → FpOk X pins H' C → compPost (model X.prog X.w) X.A X.xe use Qf (.ref D) C (.ok .next) s') :
    wpAny (model X.prog X.w) X.A (comprehension (.ListComp elt [⟨tg, iter, ifs, 0⟩] sc pos) sc X.env pos2 (newList []) false (eval iter X.env) use) Qf X.xe s := by
  refine wpAny_comprehension_free (use := use) rfl hfo (closure_ok fun y hy e => (ok.free y hy e).elim (fun k => I.ok.has _ (.inl k)) fun k => I.ok.has _ (.inr k)) ok.kind (fun y hy e => by rw [ok.uniq y hy, e])
    (thn (hi.run pins s σ H _ I h) fun xv sa hx1 => thn hx1 fun itv sb hb => ?_)
  obtain ⟨it, fp, tn, J, Hb, rfl, Ib, T, stb, fb, q⟩ := hb
  refine wpAny_newObj_type (newEnv_comp ?_) (by show 0 ≤ sizeLine; decide)
  generalize eD : sb.heap.objs.size = D
  have nD : Hb D = none := Ib.hok.fresh (Nat.le_of_eq eD)
  obtain ⟨W, ⟨m0, w0⟩, turn⟩ := q D nD
  generalize esc : ({ sb with heap := sb.heap.push { cls := .type "list", data := .seq ([] : List Value).toArray } } : Shared) = s3
  have hp3 : s3.heap = sb.heap.push { cls := .type "list", data := .seq ([] : List Value).toArray } := by rw [← esc]
  have I3 : Inv X pins σ (upd Hb D (.lst [])) s3 := by
    rw [← esc]
    refine Ib.laid (t' := sb.toks) (fun b o e => Heap.get?_push_of_some _ e) (Nat.le_of_eq eD) ⟨Nat.zero_le _, [], 0, .nil, ?_⟩
    subst eD
    exact Heap.get?_push_size _ rfl
  have f3 : ∀ b ∈ fp, FpOk X pins (upd Hb D (.lst [])) b ∧ b < s3.heap.objs.size := fun b hb => by
    obtain ⟨o, e, _⟩ := T.obj _ _ stb b hb
    have lt := Heap.lt_size e
    refine ⟨⟨?_, (fb b hb).2⟩, by rw [hp3, Heap.size_push]; exact Nat.lt_succ_of_lt lt⟩
    rw [upd_ne (by rw [← eD]; exact Nat.ne_of_lt lt)]
    exact (fb b hb).1
  have st3 : tn 0 s3.heap := T.keep _ _ _ stb fun b _ o e => by rw [hp3]; exact Heap.get?_push_of_some _ e
  have I4 := block_start I3 ok nd f3
  have pg := hg s3 (upd Hb D (.lst [])) s3.heap.objs.size (cellsFrom (s3.heap.objs.size + 1) sc.names (cloFrom X.env.cells sc.names [])) fp
  have pt := ht s3 (upd Hb D (.lst [])) s3.heap.objs.size (cellsFrom (s3.heap.objs.size + 1) sc.names (cloFrom X.env.cells sc.names [])) fp
  have pe := he s3 (upd Hb D (.lst [])) s3.heap.objs.size (cellsFrom (s3.heap.objs.size + 1) sc.names (cloFrom X.env.cells sc.names [])) fp
  show codeAny _ _ (.compStart (.ListComp elt [⟨tg, iter, ifs, 0⟩] sc pos) 0 (.ref it) (.ref D) (compEnvC sc (cellsFrom (s3.heap.objs.size + 1) sc.names (cloFrom X.env.cells sc.names [])) s3.heap.objs.size X.env))
    (compPost (model X.prog X.w) X.A X.xe use Qf (.ref D) s3.heap.objs.size) { s3 with heap := pushCells (s3.heap.push { cls := .type "dict", data := .dict #[] }) sc.names }
  have nfp : ∀ b ∈ fp, (upd Hb D (.lst [])) b = none := fun b hb => (f3 b hb).1.1
  have nbd : ∀ (x : Value) (V : Value → Shared → Prop) (s5 : Shared), notedBy (model X.prog X.w) X.A X.env V x s5 → notedBy (model X.prog X.w) X.A (compEnvC sc (cellsFrom (s3.heap.objs.size + 1) sc.names (cloFrom X.env.cells sc.names [])) s3.heap.objs.size X.env) V x s5 := fun x V s5 y => y
  generalize ece : compEnvC sc (cellsFrom (s3.heap.objs.size + 1) sc.names (cloFrom X.env.cells sc.names [])) s3.heap.objs.size X.env = ce at I4 pg pt pe nbd ⊢
  have cL : ce.locals = s3.heap.objs.size := by subst ece; rfl
  generalize eH : upd Hb D (.lst []) = H3 at I3 I4 pg pt pe w0 nfp f3
  generalize es4 : ({ s3 with heap := pushCells (s3.heap.push { cls := .type "dict", data := .dict #[] }) sc.names } : Shared) = s4 at I4 ⊢
  have st4 : tn 0 s4.heap := T.keep _ _ _ st3 fun b _ o e => by rw [← es4]; exact pushCells_keeps _ _ _ _ (Heap.get?_push_of_some _ e)
  have stat : ∀ {σ' : L2.St} {H' : Hp} {s' : Shared}, Inv (X.blk s3 H3 sc ce fp) [] σ' H' s' → (∀ b ∈ fp, H' b = none) → ∀ b ∈ fp, FpOk (X.blk s3 H3 sc ce fp) [] H' b := fun {σ' H' s'} J1 n b hb =>
    ⟨n b hb, (J1.ok.exf b hb).1, J1.ok.exfs b hb, .inl hb, (J1.ok.exf b hb).2, fun p y => by cases y⟩
  -- back in the def's own context
  have back : ∀ {σ' : L2.St} {H' : Hp} {s' : Shared} {pz : List (Addr × Obj)}, Inv (X.blk s3 H3 sc ce fp) pz σ' H' s' → Inv X pins σ H' s' ∧ FpOk X pins H' s3.heap.objs.size ∧ ∃ m, s'.heap.Ns s3.heap.objs.size m := fun {σ' H' s' pz} J1 => by
    have z : H' ce.locals = none := J1.free
    obtain ⟨m, hn, _⟩ := J1.loc
    have hn' : s'.heap.Ns ce.locals m := hn
    rw [cL] at z hn'
    exact ⟨I3.call' (ch := fp) J1.os J1.base J1.hok J1.bare fun b hb => ⟨(f3 b hb).1.2.2.2.1, (f3 b hb).1.2.1, (f3 b hb).1.2.2.2.2.1, (f3 b hb).1.2.2.2.2.2⟩, I3.fpOk (Nat.le_refl _) z, m, hn'⟩
  have loop : codeAny (model X.prog X.w) X.A (.compLoop (.ListComp elt [⟨tg, iter, ifs, 0⟩] sc pos) 0 (.ref it) (.ref D) ce) (compPost (model X.prog X.w) X.A X.xe use Qf (.ref D) s3.heap.objs.size) s4 := by
    refine compLoop_any (fun n s' => ∃ i H', Inv (X.blk s3 H3 sc ce fp) [] (wipe σ (own.map (·.2))) H' s' ∧ tn i s'.heap ∧ (∀ b ∈ fp, H' b = none) ∧ W i n H') ?_ m0 ⟨0, H3, I4, st4, nfp, w0⟩
    rintro n s5 ⟨i, H5, I5, st5, n5, w5⟩
    rcases turn i n H5 w5 with ⟨stop, qq⟩ | ⟨go, Nx, hNx, step⟩
    · refine thnF (T.done (X.blk s3 H3 sc ce fp) rfl rfl rfl calm i [] s5 _ H5 (fun _ _ => False) I5 (stat I5 n5) st5 stop) fun r s6 ⟨hr, I6⟩ => ?_
      subst hr
      obtain ⟨I7, f7, m, hn⟩ := back I6
      exact fin D s3.heap.objs.size s6 m H5 I7 qq hn f7
    · refine thnF (T.item (X.blk s3 H3 sc ce fp) rfl rfl rfl calm i [] s5 _ H5 (fun _ _ => False) I5 (stat I5 n5) st5 go) fun r s6 ⟨u, hr, h6⟩ => ?_
      subst hr
      refine thnF h6 fun _ s7 ⟨x, H7, I7, r7, y7, st7, n7⟩ => ?_
      have I7' := I7.pinned (stat I7 n7) (T.obj _ _ st7)
      refine thnF (pg.run _ s7 _ H7 x u _ I7' r7 (step x H7 y7)) fun _ s8 ⟨σ8, H8, I8, hw8, q8⟩ => ?_
      refine thnF (pt.run _ s8 σ8 H8 _ I8 q8) fun b s9 ⟨H9, I9, q9⟩ => ?_
      have over : ∀ {s' : Shared} {H' : Hp}, Inv (X.blk s3 H3 sc ce fp) ([] ++ pinsAt fp s7.heap) σ8 H' s' → Nx H' → ∃ m, m < n ∧ ∃ i H', Inv (X.blk s3 H3 sc ce fp) [] (wipe σ (own.map (·.2))) H' s' ∧ tn i s'.heap ∧ (∀ b ∈ fp, H' b = none) ∧ W i m H' := fun {s' H'} J1 nx => by
        obtain ⟨m', hm, w'⟩ := hNx H' nx
        have pz : ∀ b ∈ fp, ∀ o, s7.heap.get? b = some o → s'.heap.get? b = some o ∧ H' b = none := fun b hb o e =>
          let z := J1.pin (b, o) (List.mem_append_right _ (List.mem_append_right _ (mem_pinsAt hb e)))
          ⟨z.1, z.2.1⟩
        refine ⟨m', hm, i + 1, H', (J1.unpinned (pins := [])).weak (by rw [← hw8, wipe_length]) (fun j v e => ?_), T.keep _ _ _ st7 fun b hb o e => (pz b hb o e).1, fun b hb => ?_, w'⟩
        · rw [← hw8] at e
          exact (wipe_some e).1
        · obtain ⟨o, e, _⟩ := T.obj _ _ st7 b hb
          exact (pz b hb o e).2
      cases b with
      | false =>
        rw [if_neg (by simp)] at q9 ⊢
        exact over I9 q9
      | true =>
        rw [if_pos rfl] at q9 ⊢
        have ok9 := I9.ok
        have pe9 := pe ([] ++ ([] ++ pinsAt fp s7.heap)) (notedBy (model X.prog X.w) X.A ce fun e s' => compPost (model X.prog X.w) X.A X.xe use Qf (.ref D) s3.heap.objs.size (.error e) s')
          (fun pz σz Hz sz e s' J1 c => by
            obtain ⟨J2, f2, n2⟩ := back (J1.ofTry (X := X.blk s3 H3 sc ce fp) (pins := [] ++ pinsAt fp s7.heap) ok9)
            exact nbd _ _ _ (comp_fail hs hf hex hx J2 f2 n2 c))
        refine thn (pe9.run [] s9 σ8 H9 _ (I9.toTry _) q9) fun z sx ⟨yv, Hx, Ix, rx, acc, hDx, hzx, nx⟩ => ?_
        exact app_ok (X := X.blk s3 H3 sc ce fp) (Ix.ofTry (X := X.blk s3 H3 sc ce fp) (pins := [] ++ pinsAt fp s7.heap) ok9) hDx hzx rx fun sy Iy => over Iy nx
  exact codeAny_compStart_list loop (T.self X.A 0 _ _ _ st4 loop)
theorem ps_setLcE {E1 : Value → Shared → Prop} {i : Nat} {y : Str} {py : Pos} {elt tg iter : Expr} {ifs : List Expr} {sc : Scope} {own : List (Str × Nat)} {pos spos : Pos} {wi : TI} {g : TG} {tt : TT} {te : TE}
    (hs : X.stack = X.env :: X.outer) (hf : X.env.frame = some X.env.locals) (hex : X.ex = []) (hx : X.xe = fun e s3 => wpAny (model X.prog X.w) X.A (leaving X.env e) (fun _ s4 => CX X.prog X.w X.outer X.H_0 X.s_0 E e s4) E1 s3)
    (calm : X.calm = true) (nd : X.N.Nodup) (hy : X.N[i]? = some y) (hyl : X.env.scope.names.lookup y = some .local)
    (hsw : swapsWith (.ListComp elt [⟨tg, iter, ifs, 0⟩] sc pos) (some (.Name y py)) spos.line X.env = pure true) (hi : PI X tg iter wi) (ok : BlkOk X.N X.env.scope sc own)
    (hg : ∀ (s : Shared) (H : Hp) (C : Addr) (cl : List (Str × Addr)) (fp : List Addr), PG (X.blk s H sc (compEnvC sc cl C X.env) fp) tg g)
    (ht : ∀ (s : Shared) (H : Hp) (C : Addr) (cl : List (Str × Addr)) (fp : List Addr), PTs (X.blk s H sc (compEnvC sc cl C X.env) fp) ifs tt)
    (he : ∀ (s : Shared) (H : Hp) (C : Addr) (cl : List (Str × Addr)) (fp : List Addr) (pn : List (Addr × Obj)) (xe : Value → Shared → Prop), Passes (L2.CX X.prog X.w) ((X.blk s H sc (compEnvC sc cl C X.env) fp).tr pn xe) E → PE ((X.blk s H sc (compEnvC sc cl C X.env) fp).tr pn xe) elt te)
    (hfo : ∀ x, foldedSetIterable iter X.env x = pure x := by intro _; rfl) :
    PS X (.Assign [.Name y py] (.ListComp elt [⟨tg, iter, ifs, 0⟩] sc pos) spos) (tAsg (tLc wi g tt te (own.map (·.2))) (gName i)) := by
  refine ⟨fun pins s σ H D I h => ?_⟩
  have h : tLc wi g tt te (own.map (·.2)) σ H (fun x H1 => gName i x σ H1 D.nx) := h
  rw [exec_Assign_Name_used _ _ _ _ hsw]
  refine wpAny_bind (wpAny_standAt (wpAny_bind ?_))
  show wpAny _ X.A (do
    let _ ← comprehension (.ListComp elt [⟨tg, iter, ifs, 0⟩] sc pos) sc X.env (firstIterPos [⟨tg, iter, ifs, 0⟩] pos) (newList []) false (eval iter X.env) (some (assign (.Name y py) X.env))
    _) _ _ s
  refine wpAny_bind (thn (lc_raise (Qf := fun _ s' => SP X pins D .next s') hs hf hex hx calm nd I hi ok hg ht he hfo h fun L C s' m H' I' q hn f => ?_) fun _ s' hq => wpAny_pure (wpAny_pure hq))
  show wpAny _ _ (assign (.Name y py) X.env (.ref L)) _ _ _
  refine wpAny_assign_Name (store_ok2 (v := V.ref L) I' nd hy (.inl hyl) rfl (fun s2 I2 ⟨a, sb, ha⟩ => ?_) (.inr hyl))
  obtain ⟨f0, f1, f2, f3, f4, f5⟩ := f
  have aC : C ≠ a := by
    rcases ha with rfl | ha
    · exact f1
    · exact fun z => f4 _ _ ha z.symm
  refine ⟨m, ?_, fun h'' sb' => ⟨_, H', I2.turned (t' := s2.toks) (fun b o hb e => (sb'.2 b hb).trans e) f0 f1 f3 f4 f5, q⟩⟩
  obtain ⟨o, es, ep, eo, r⟩ := hn
  exact ⟨o, es, ep, (sb.2 C aC).trans eo, r⟩
end
end RB
namespace RB
open PySem PySem.Spec PyProof.Rows L2 LamX NdefX
def nCatS : R2 := fun x y H Q => ∃ i j, x = .str i ∧ y = .str j ∧ i.length + j.length ≤ sizeLine ∧ Q (.str (i ++ j)) H
def nNotSign : R2 := fun x y H Q => ∃ (c : Nat) (z : Str), x = .str ⟨#[c]⟩ ∧ y = .str z ∧ Q (.bl (!decide (c ∈ z.cps.toList))) H
def nStr : List V → Hp → VK → Prop := fun xs H Q => (∃ i, xs = [.int i] ∧ i.natAbs.log2 < 1920 ∧ Q (.str (toString i)) H) ∨ ∃ a, xs = [.str a] ∧ Q (.str a) H
def nTuple (K : PySem.W.Frag) : List V → Hp → VK → Prop := fun xs H Q => ∃ p ys, xs = [.ref p] ∧ ((SqL K H p ys ∧ ∀ l, H l = none → Q (.ref l) (upd H l (.tup ys))) ∨ (SqT K H p ys ∧ Q (.ref p) H))
def nIntS : List V → Hp → VK → Prop := fun xs H Q => ∃ a n, xs = [.str a] ∧ PySem.intText? a = some n ∧ a.length ≤ 640 ∧ Q (.int n) H
def nLenS : List V → Hp → VK → Prop := fun xs H Q => ∃ z, xs = [.str z] ∧ z.length ≤ sizeLine ∧ Q (.int z.length) H
def nSplit : V → List V → Hp → VK → Prop := fun x xs H Q => ∃ a b, x = .str a ∧ xs = [.str b] ∧ (b.length == 0) = false ∧ a.length + 2 ≤ sizeLine ∧ rNewStrs (Txt.split a b) H Q
def nJoin (K : PySem.W.Frag) : V → List V → Hp → VK → Prop := fun x xs H Q => ∃ a p, ∃ ys : List Str, x = .str a ∧ xs = [.ref p] ∧ (SqL K H p (ys.map V.str) ∨ SqT K H p (ys.map V.str)) ∧
      (ys.map (·.length)).sum + ys.length * a.length ≤ 16777216 ∧ Q (.str (Txt.join a ys)) H
def nPfx : V → List V → Hp → VK → Prop := fun x xs H Q => ∃ a b, x = .str a ∧ xs = [.str b] ∧ a.length ≤ sizeLine ∧ Q (.str (Txt.removeprefix a b)) H
def rIxK (K : PySem.W.Frag) (D : Addr) : R2 := fun x y H Q => ∃ (z : Str) (u : Value) (v : V), x = .ref D ∧ y = .str z ∧ PySem.W.nsIn K D z = some (some u) ∧ RelV v u ∧ Q v H
def rNk (K : PySem.W.Frag) (D : Addr) : R2 := fun x y H Q => ∃ (z : Str) (r : Option Value), x = .str z ∧ y = .ref D ∧ PySem.W.nsIn K D z = some r ∧ Q (.bl (!r.isSome)) H
def rIsEs (K : PySem.W.Frag) (D a : Addr) : List V → Hp → VK → Prop := fun xs H Q => ∃ (tp : Addr) (cs : List V) (us : List Value) (b : Bool), xs = [.ref a, .ref tp] ∧ H tp = some (.tup cs) ∧ Paired ClsV cs us ∧ PySem.W.kitAny K (.ref D) us = some b ∧ Q (.bl b) H
section
variable {X : Cx}
theorem oCatS : OpR X (binaryOp .Add) nCatS := op_add_str
theorem oNotSign : OpR X (compareOp .NotIn) nNotSign := op_notIn_sign
theorem cStr : CallR X (.type "str") nStr := call_str_int.or SkE.call_str_str
theorem cTuple : CallR X (.type "tuple") (nTuple X.K) := call_tuple_of
theorem cIntS : CallR X (.type "int") nIntS := call_int_str
theorem cLenS : CallR X (.builtin "len") nLenS := call_len_str
theorem oIxK {D : Addr} {es : Array DictEntry} {n : Nat} (k : KDict X.K X.w D es n) : IxR X (rIxK X.K D) := fun value slice pins s σ H x y v u Q I rx ry h hs => by
  obtain ⟨z, u0, r, e1, e2, e, ru, q⟩ := h
  exact ix_kdict value slice pins s σ H x y v u Q I rx ry ⟨D, z, r, e1, e2, ⟨es, n, u0, k.at_, k.lit, e, ru⟩, q⟩ hs
theorem oNk {D : Addr} {es : Array DictEntry} {n : Nat} (k : KDict X.K X.w D es n) : OpR X (compareOp .NotIn) (rNk X.K D) := op_notIn_kd k
theorem pe_strc {x v : Str} {pos : Pos} (hg : Gl X x) (h : ∃ t, X.mg x = some (.str v t)) (hd : (x == ("__debug__" : Str)) = false := by decide) : PE X (.Name x pos) (tC (.str v)) := by
  obtain ⟨t, h⟩ := h
  exact pe_glob hg h ⟨t, rfl⟩ hd
theorem call_isEs {a D : Addr} {oe : Obj} {pn : List (Addr × Obj)} (C : ExcC X.K D) (hz : Zc (.ref D) none oe) (hf : ∃ vs, oe.data = .fields vs) : CallR (X.suite a ((a, oe) :: pn)) (.builtin "isinstance") (rIsEs X.K D a) := by
  intro pins s σ H xs us Q I r h
  obtain ⟨tp, cs, ws, b, rfl, hT, k, e, q⟩ := h
  obtain ⟨u1, u2, rfl, r1, r2⟩ := vals2 r
  cases (show u1 = Value.ref a from r1)
  cases (show u2 = Value.ref tp from r2)
  obtain ⟨hget, _⟩ := I.pin (a, oe) (List.mem_append.mpr (.inl List.mem_cons_self))
  obtain ⟨vs, hv⟩ := hf
  have J : PySem.W.InstAt s.heap a oe D none := by
    obtain ⟨oc, od, oda, osl⟩ := oe
    obtain ⟨z1, z2⟩ := hz
    dsimp only at z1 z2 hv
    subst z1 z2 hv
    exact ⟨hget, rfl, rfl, trivial⟩
  obtain ⟨_, its, rv, o, g1, g2, n, g3⟩ := (show ObjOk X.prog X.w H s.heap tp (.tup cs) from I.hok tp _ hT)
  have e3 := ClsV.all k rv
  subst e3
  obtain ⟨oc, od, dt, sl⟩ := o
  simp only at g2 g3
  subst g2 g3
  exact PySem.W.kia_tup (PySem.W.handS_kitx_exc C.hg C.hk C.hs C.hd C.ha C.hn C.ht C.hm) I.kIn J g1 e (fun z => nomatch z) fun tk => ⟨.bl b, H, I.kept (t' := tk) fun _ _ z => z, rfl, q⟩
end
section
variable {X : Cx} {k j : Nat} {ps : List Str} {sp : Sp} {E : XK} {x : Str} {p pos : Pos}
theorem pe_callC0 (C : Cal X.prog X.w X.K X.mg X.base k x ps sp) (hr : Room j X.A) (hj : k ≤ j) (hg : Gl X x) (hx : Passes (L2.CX X.prog X.w) X E) (hdb : (x == ("__debug__" : Str)) = false := by decide) : PE X (.Call (.Name x p) [] [] pos) (tCall sp [] E tNil) := by
  obtain ⟨f, fd, F, hm, hk, hb⟩ := C.ex
  exact pe_call0 F (hr.mono hj) hg hm hk hb .nil hx hdb
end
def gStar (K : PySem.W.Frag) (i j : Nat) : TG := fun v σ H Q => ∃ a x xs, v = .ref a ∧ SqL K H a (x :: xs) ∧ ∀ D, H D = none → Q ((σ.set i (some x)).set j (some (.ref D))) (upd H D (.lst xs))
section
variable {prog : Program} {w : World} {A : Around} {E : Value → Shared → Prop} {s : Shared}
theorem star_two {l : Addr} {u : Value} {us : List Value} {Q : List Value → Shared → Prop} (hl : s.heap.IsList l (u :: us).toArray) (hh : A.handled = none) (hz : us.length + 1 ≤ sizeLine)
    (h : ∀ h2 tk, Heap.ExtBut s.heap.objs.size s.heap h2 → Q [u, .ref h2.objs.size] { s with heap := h2.push { cls := .type "list", data := .seq us.toArray }, toks := tk }) :
    wpAny (model prog w) A (unpackItems (.ref l) 2 (some 1)) Q E s := by
  obtain ⟨o0, ho0, _⟩ := id hl
  have lt := Heap.lt_size ho0
  have ne : l ≠ s.heap.objs.size := Nat.ne_of_lt lt
  have sz : (u :: us).toArray.size = us.length + 1 := by simp
  unfold unpackItems notIterableAtAll
  refine wpAny_bind (wpAny_bind (wpAny_specialOf hl.typeIs slot_list_iter.lookup (wpAny_pure ?_)))
  simp only [Bool.false_eq_true, if_false]
  refine wpAny_bind (wpAny_holding (wpAny_pyIter_list hl (wpAny_bind (wpAny_holding ?_))))
  refine PySem.W.kun_draw ne 1 0 _ _ ⟨_, Heap.get?_push_size _ rfl, rfl, rfl⟩ (hl.push _) (by rw [sz]; omega) fun g1 i1 sb1 => ?_
  have l1 : g1.IsList l (u :: us).toArray := (hl.push _).extBut sb1.extBut ne
  obtain ⟨o1, e1, _⟩ := id i1
  obtain ⟨o2, e2, _⟩ := id l1
  have c1 : (((u :: us).toArray.toList.drop 0).take 1) = [u] := by simp
  rw [c1, if_neg (by simp)]
  refine wpAny_bind (wpAny_holding ?_)
  refine PySem.W.kun_collect (s := { s with heap := g1 }) (T := "list_iterator") (k := 1) (.inr (.inr (.inl rfl))) (Walks.list (A := A.in1) hh s.heap.objs.size l ne (u :: us).toArray) (fun _ _ st => st.1.typeIs) (by rw [sz]; omega) ⟨i1, l1⟩ (Heap.lt_size e1) (Heap.lt_size e2) (fun g2 tk kp => ?_) (by rw [sz]; omega)
  have c2 : (u :: us).toArray.toList.drop 1 = us := by simp
  rw [c2]
  have far : Heap.ExtBut s.heap.objs.size s.heap g2 := fun b o hb e => kp b o hb (sb1.extBut b o hb (Heap.get?_push_of_some _ e))
  show wpAny _ _ (if us.length < 2 - 1 - 1 then _ else _) _ _ _
  rw [if_neg (by omega)]
  show wpAny _ _ (newList (us.take (us.length - (2 - 1 - 1))) >>= fun d => pure ([u] ++ [d] ++ us.drop (us.length - (2 - 1 - 1)))) _ _ _
  have t0 : us.length - (2 - 1 - 1) = us.length := by omega
  rw [t0, List.take_length, List.drop_length]
  refine wpAny_bind (wpAny_newList ?_ (by omega))
  exact wpAny_pure (h g2 tk far)
end
section
variable {X : Cx} {pos : Pos}
theorem pg_star {i j : Nat} {x y : Str} {px py ps : Pos} {k : Nat} (hc : X.calm = true) (nd : X.N.Nodup) (hi : X.N[i]? = some x) (hj : X.N[j]? = some y) (lx : Loc X.env.scope x) (ly : Loc X.env.scope y)
    (fx : X.fn x = true ∨ X.env.scope.names.lookup x = some .local) (fy : X.fn y = true ∨ X.env.scope.names.lookup y = some .local)
    (hn : (assignEach [.Name x px, .Starred (.Name y py) ps] X.env).length = 2 := by rfl) (hst : (assignEach [.Name x px, .Starred (.Name y py) ps] X.env).findIdx? (·.1) = some 1 := by rfl)
    (hs : (assignEach [.Name x px, .Starred (.Name y py) ps] X.env).map (·.2) = (assignEach [.Name x px, .Name y py] X.env).map (·.2) := by rfl) :
    PG X (.Tuple [.Name x px, .Starred (.Name y py) ps] k pos) (gStar X.K i j) := by
  refine ⟨fun pins s σ H v u Q I r hw => ?_⟩
  obtain ⟨a, z, zs, rfl, hq, hw⟩ := hw
  cases (show u = Value.ref a from r)
  obtain ⟨its, rv, pl, hz⟩ := I.list hq
  cases rv with
  | @cons _ u0 _ us r0 rv =>
  rw [assign_Tuple]
  refine wpAny_bind (wpAny_standAt ?_)
  unfold unpack
  rw [hn, hst, hs]
  have hl := rv.length
  have hz' : us.length + 1 ≤ sizeLine := by
    rw [← hl]
    exact hz
  refine wpAny_bind (wpAny_holding (star_two pl.isList (I.ok.hd hc) hz' fun h2 tk far => ?_))
  have I1 : Inv X pins σ H { s with heap := h2, toks := tk } := I.kept (t' := tk) fun b o e => far b o (Nat.ne_of_lt (Heap.lt_size e)) e
  have nD : H h2.objs.size = none := I1.hok.fresh (Nat.le_refl _)
  have I2 : Inv X pins σ (upd H h2.objs.size (.lst zs)) { s with heap := h2.push { cls := .type "list", data := .seq us.toArray }, toks := tk } :=
    I1.laid (t' := tk) (fun b o e => Heap.get?_push_of_some _ e) (Nat.le_refl _) (show ObjOk X.prog X.w _ _ _ (.lst zs) from ⟨by rw [hl]; omega, us, _, rv, Heap.get?_push_size _ rfl⟩)
  exact (pgs_cons (pg_name (i := i) (pos := px) nd hi lx fx) (pgs_cons (pg_name (i := j) (pos := py) nd hj ly fy) pgs_nil)).run pins _ σ _ [z, .ref h2.objs.size] [u0, .ref h2.objs.size] Q I2 (.cons r0 (.cons rfl .nil)) ⟨z, _, rfl, ⟨_, _, rfl, rfl, hw _ nD⟩⟩
end
end RB
namespace RB
open PySem PySem.Spec PyProof.Rows L2
def t_shown (K : PySem.W.Frag) (E : XK) : TS :=
  (tRet (tM1 (nJoin K) (tC (.str " ")) (tLc (iTup K (tVar 0)) (gName 1) tYes (tCB nStr (tCons (tVar 1) tNil)) [1])))
def t_read (K : PySem.W.Frag) (C_NoDeed : Addr) (D_HOW_MANY : Addr) (s_number_of : Sp) (E : XK) : TS :=
  (tSeq (tAsg (tM1 nSplit (tVar 0) (tC (.str " "))) (gStar K 1 2))
    (tSeq (tIfS (tTest (tOp (rNk K D_HOW_MANY) (tVar 1) (tC (.ref D_HOW_MANY)))) (tRaise E C_NoDeed) tNext)
    (tSeq (tIfS (tTest (tOp rNe (tCB (nLen K) (tCons (tVar 2) tNil)) (tOp (rIxK K D_HOW_MANY) (tC (.ref D_HOW_MANY)) (tVar 1)))) (tRaise E C_NoDeed) tNext)
    (tSeq (tAsg (tLc (iList K (tVar 2)) (gName 4) tYes (tCall s_number_of [] E (tCons (tVar 4) tNil)) [4]) (gName 3))
    (tRet (tTup (tCons (tVar 1) (StX.tStar K (tVar 3) tNil))))))))
def t_number_of (C_NoDeed : Addr) (s_is_number : Sp) (E : XK) : TS :=
  (tSeq (tIfS (tNot (tB (tCall s_is_number [] E (tCons (tVar 0) tNil)))) (tRaise E C_NoDeed) tNext)
    (tRet (tCB nIntS (tCons (tVar 0) tNil))))
def t_is_number (K : PySem.W.Frag) (E : XK) : TS :=
  (tSeq (tAsg (tM1 nPfx (tVar 0) (tC (.str "-"))) (gName 1))
    (tSeq (tIfS (tOr (tTest (tOp rEq (tVar 1) (tC (.str "")))) (tB (tCB (rAny K) (tCons (tLc (iStr (tVar 1)) (gName 2) tYes (tOp nNotSign (tVar 2) (tC (.str "0123456789"))) [2]) tNil)))) (tRet (tC (.bl false))) tNext)
    (tRet (tOrV (tOp rNe (tOp rIxS (tVar 1) (tC (.int 0))) (tC (.str "0"))) (tOp rEq (tVar 0) (tC (.str "0")))))))
def t_l_word_by (K : PySem.W.Frag) (E : XK) : TS :=
  (tSeq (tAsg (tLst (tCons (tC (.str "add")) (tCons (tC (.str "fill")) (tCons (tC (.str "total")) (tCons (tC (.str "least")) (tCons (tC (.str "place")) (tCons (tC (.str "first")) (tCons (tC (.str "list")) (tCons (tC (.str "back")) tNil))))))))) (gName 1))
    (tSeq (tAsg (tOp rCat (tVar 1) (tLst (tCons (tC (.str "")) (tCons (tC (.str "Add")) (tCons (tC (.str "adds")) (tCons (tC (.str "ADD")) (tCons (tC (.str "sum")) (tCons (tC (.str "min")) (tCons (tC (.str "undo")) (tCons (tC (.str "length")) (tCons (tC (.str "max")) (tCons (tC (.str "mean")) (tCons (tC (.str "sub")) (tCons (tC (.str "set")) (tCons (tC (.str "put")) tNil))))))))))))))) (gName 1))
    (tSeq (tAsg (tOp rCat (tVar 1) (tLst (tCons (tC (.str "count")) (tCons (tC (.str "made")) (tCons (tC (.str "even")) (tCons (tC (.str "added")) (tCons (tC (.str "filled")) (tCons (tC (.str "listed")) (tCons (tC (.str "clear")) (tCons (tC (.str "average")) (tCons (tC (.str "reverse")) (tCons (tC (.str "replace")) tNil)))))))))))) (gName 1))
    (tSeq (tIfS (tTest (tOp nGt (tOp nMod (tVar 0) (tC (.int 4))) (tC (.int 0)))) (tRet (tOp (rIxL K) (tVar 1) (tOp nMod (tOp nDiv (tVar 0) (tC (.int 4))) (tC (.int 8))))) tNext)
    (tSeq (tIfS (tTest (tOp rEq (tOp nMod (tVar 0) (tC (.int 8))) (tC (.int 0)))) (tRet (tOp (rIxL K) (tVar 1) (tOp nAdd (tC (.int 8)) (tOp nMod (tOp nDiv (tVar 0) (tC (.int 8))) (tC (.int 23)))))) tNext)
    (tSeq (tAsg (tC (.str "")) (gName 2))
    (tSeq (tFor (iRng1 (tCons (tOp nAdd (tC (.int 1)) (tOp nMod (tOp nDiv (tVar 0) (tC (.int 8))) (tC (.int 10)))) tNil)) (gName 3)
    (tAsg (tOp nCatS (tVar 2) (tOp rIxS (tC (.str "abcdefghijklmnopqrstuvwxyz")) (tOp nMod (tOp nAdd (tOp nDiv (tVar 0) (tC (.int 48))) (tOp nMul (tVar 3) (tOp nDiv (tVar 0) (tC (.int 7))))) (tC (.int 26))))) (gName 2)))
    (tRet (tVar 2)))))))))
def t_l_count (K : PySem.W.Frag) (E : XK) : TS :=
  (tSeq (tIfS (tOr (tTest (tOp rEq (tVar 0) (tC (.str "add")))) (tTest (tOp rEq (tVar 0) (tC (.str "fill"))))) (tRet (tC (.int 3))) tNext)
    (tSeq (tIfS (tTest (tOp (rIn K false) (tVar 0) (tLst (tCons (tC (.str "total")) (tCons (tC (.str "least")) (tCons (tC (.str "place")) (tCons (tC (.str "first")) (tCons (tC (.str "list")) tNil)))))))) (tRet (tC (.int 2))) tNext)
    (tSeq (tIfS (tTest (tOp rEq (tVar 0) (tC (.str "back")))) (tRet (tC (.int 0))) tNext)
    (tRet (tUn nNeg (tC (.int 1)))))))
def t_l_figures_by (K : PySem.W.Frag) (E : XK) : TS :=
  (tSeq (tIfS (tTest (tOp rEq (tOp nMod (tVar 0) (tC (.int 8))) (tC (.int 1)))) (tRet (tCB nStr (tCons (tOp nMod (tOp nDiv (tVar 0) (tC (.int 8))) (tVar 1)) tNil))) tNext)
    (tSeq (tIfS (tTest (tOp rEq (tOp nMod (tVar 0) (tC (.int 8))) (tC (.int 2)))) (tRet (tOp nCatS (tC (.str "-")) (tCB nStr (tCons (tOp nMod (tOp nDiv (tVar 0) (tC (.int 8))) (tVar 1)) tNil)))) tNext)
    (tSeq (tIfS (tTest (tOp rEq (tOp nMod (tVar 0) (tC (.int 8))) (tC (.int 4)))) (tSeq (tAsg (tOp (rIxL K) (tLst (tCons (tC (.str "")) (tCons (tC (.str "")) (tCons (tC (.str "7")) (tCons (tCB nStr (tCons (tOp nMod (tOp nDiv (tVar 0) (tC (.int 48))) (tOp nDiv (tVar 1) (tC (.int 1000)))) tNil)) tNil))))) (tOp nMod (tOp nDiv (tVar 0) (tC (.int 8))) (tC (.int 4)))) (gName 2))
    (tRet (tOp nCatS (tOp (rIxL K) (tLst (tCons (tC (.str "-0")) (tCons (tC (.str "0")) (tCons (tC (.str "00")) (tCons (tC (.str "-00")) (tCons (tC (.str "0")) (tCons (tC (.str "-0")) tNil))))))) (tOp nMod (tOp nDiv (tVar 0) (tC (.int 8))) (tC (.int 6)))) (tVar 2)))) tNext)
    (tSeq (tIfS (tTest (tOp rEq (tOp nMod (tVar 0) (tC (.int 8))) (tC (.int 3)))) (tSeq (tAsg (tLst (tCons (tC (.str "")) (tCons (tC (.str "-")) (tCons (tC (.str "-0")) (tCons (tC (.str "+1")) (tCons (tC (.str "01")) (tCons (tC (.str "-01")) (tCons (tC (.str "00")) (tCons (tC (.str "1.5")) (tCons (tC (.str "--1")) (tCons (tC (.str "1-")) tNil))))))))))) (gName 3))
    (tSeq (tAsg (tOp rCat (tVar 3) (tLst (tCons (tC (.str "a")) (tCons (tC (.str "1a")) (tCons (tC (.str "1e3")) (tCons (tC (.str "0x1")) (tCons (tC (.str "1_0")) (tCons (tC (.str "None")) (tCons (tC (.str "-+2")) (tCons (tC (.str "1,0")) tNil)))))))))) (gName 3))
    (tRet (tOp (rIxL K) (tVar 3) (tOp nMod (tOp nDiv (tVar 0) (tC (.int 8))) (tC (.int 18))))))) tNext)
    (tRet (tCB nStr (tCons (tOp nSub (tOp nMod (tOp nDiv (tVar 0) (tC (.int 8))) (tC (.int 41))) (tC (.int 20))) tNil)))))))
def t_l_signs  (E : XK) : TS :=
  (tSeq (tAsg (tC (.str " !\"#$&'()*+,-./0123456789:;<=>?@ABCDEFGHIJKLMNOPQRSTUVWXYZ[\\]^_`")) (gName 0))
    (tRet (tOp nCatS (tVar 0) (tC (.str "abcdefghijklmnopqrstuvwxyz{|}~\n\t")))))
def t_l_number_of (K : PySem.W.Frag) (E : XK) : TS :=
  (tSeq (tAsg (tVar 0) (gName 1))
    (tSeq (tIfS (tTest (tOp rEq (tSl rSlS (tVar 0) tNoPart (tPart (tC (.int 1)))) (tC (.str "-")))) (tAsg (tSl rSlS (tVar 0) (tPart (tC (.int 1))) tNoPart) (gName 1)) tNext)
    (tSeq (tIfS (tOr (tTest (tOp rEq (tVar 1) (tC (.str "")))) (tOr (tTest (tOp rEq (tVar 0) (tC (.str "-0")))) (tAnd (tTest (tOp nGt (tCB nLenS (tCons (tVar 1) tNil)) (tC (.int 1)))) (tTest (tOp rEq (tOp rIxS (tVar 1) (tC (.int 0))) (tC (.str "0"))))))) (tRet (tC .non)) tNext)
    (tSeq (tFor (iStr (tVar 1)) (gName 2)
    (tIfS (tTest (tOp nNotSign (tVar 2) (tC (.str "0123456789")))) (tRet (tC .non)) tNext))
    (tRet (tCB nIntS (tCons (tVar 0) tNil)))))))
def t_l_deed_of (K : PySem.W.Frag) (s_l_count : Sp) (s_l_number_of : Sp) (E : XK) : TS :=
  (tSeq (tAsg (tLst tNil) (gName 1))
    (tSeq (tAsg (tC (.str "")) (gName 2))
    (tSeq (tFor (iStr (tOp nCatS (tVar 0) (tC (.str " ")))) (gName 3)
    (tIfS (tTest (tOp rEq (tVar 3) (tC (.str " ")))) (tSeq (tDrop (tBM K "list" rAppend (tVar 1) (tCons (tVar 2) tNil)))
    (tAsg (tC (.str "")) (gName 2))) (tAsg (tOp nCatS (tVar 2) (tVar 3)) (gName 2))))
    (tSeq (tIfS (tTest (tOp rNe (tCall s_l_count [] E (tCons (tOp (rIxL K) (tVar 1) (tC (.int 0))) tNil)) (tOp nSub (tCB (nLen K) (tCons (tVar 1) tNil)) (tC (.int 1))))) (tRet (tC .non)) tNext)
    (tSeq (tAsg (tLst (tCons (tOp (rIxL K) (tVar 1) (tC (.int 0))) tNil)) (gName 4))
    (tSeq (tFor (iList K (tSl (rSlL K) (tVar 1) (tPart (tC (.int 1))) tNoPart)) (gName 5)
    (tSeq (tIfS (tTest (tOp nIs (tCall s_l_number_of [] E (tCons (tVar 5) tNil)) (tC .non))) (tRet (tC .non)) tNext)
    (tDrop (tBM K "list" rAppend (tVar 4) (tCons (tCall s_l_number_of [] E (tCons (tVar 5) tNil)) tNil)))))
    (tRet (tCB (nTuple K) (tCons (tVar 4) tNil)))))))))
def t_l_refused_by_any (K : PySem.W.Frag) (C_BookError : Addr) (C_TooMany : Addr) (C_OutOfRow : Addr) (C_Nothing : Addr) (C_NoRow : Addr) (C_NoDeed : Addr) (s_read : Sp) (E : XK) : TS :=
  (tSeq (nTryAs K (.ref C_BookError) 1 E (fun W => (tDrop (tCallS s_read (WE W) (tCons (tVar 0) tNil)))) (fun a cls d => (tKnown cls d (.ref C_NoDeed) (tSeq (tIfS (tB (tCB (rIsEs K C_NoDeed a) (tCons (tVar 1) (tCons (tTup (tCons (tC (.ref C_NoRow)) (tCons (tC (.ref C_Nothing)) (tCons (tC (.ref C_OutOfRow)) (tCons (tC (.ref C_TooMany)) tNil))))) tNil)))) (tRet (tC (.bl false))) tNext)
    (tRet (tCB (rIsE K C_NoDeed a) (tCons (tVar 1) (tCons (tC (.ty "ValueError")) tNil))))))))
    (tRet (tC (.bl false))))
def t_law_k09_20 (K : PySem.W.Frag) (C_NoDeed : Addr) (s_l_cell_at : Sp) (s_l_word_by : Sp) (s_l_count : Sp) (s_l_figures_by : Sp) (s_l_signs : Sp) (s_l_deed_of : Sp) (s_read : Sp) (s_l_refused_by_any : Sp) (s_l_whole : Sp) (s_shown : Sp) (E : XK) : TS :=
  (tRet (tAndV (tOp (rEqD K) (tVar 8) (tVar 7)) (tAndV (tCB (rIsi K) (tCons (tVar 11) (tCons (tC (.ty "str")) tNil))) (tOp rEq (tVar 11) (tVar 4)))))
def t_law_k09_19 (K : PySem.W.Frag) (C_NoDeed : Addr) (s_l_cell_at : Sp) (s_l_word_by : Sp) (s_l_count : Sp) (s_l_figures_by : Sp) (s_l_signs : Sp) (s_l_deed_of : Sp) (s_read : Sp) (s_l_refused_by_any : Sp) (s_l_whole : Sp) (s_shown : Sp) (E : XK) : TS :=
  (tSeq (tAsg (tCall s_shown [] E (tCons (tVar 7) tNil)) (gName 11))
    (t_law_k09_20 K C_NoDeed s_l_cell_at s_l_word_by s_l_count s_l_figures_by s_l_signs s_l_deed_of s_read s_l_refused_by_any s_l_whole s_shown E))
def t_law_k09_18 (K : PySem.W.Frag) (C_NoDeed : Addr) (s_l_cell_at : Sp) (s_l_word_by : Sp) (s_l_count : Sp) (s_l_figures_by : Sp) (s_l_signs : Sp) (s_l_deed_of : Sp) (s_read : Sp) (s_l_refused_by_any : Sp) (s_l_whole : Sp) (s_shown : Sp) (E : XK) : TS :=
  (tSeq (tFor (iTup K (tSl (rSlA K) (tVar 8) (tPart (tC (.int 1))) tNoPart)) (gName 10)
    (tIfS (tNot (tB (tCall s_l_whole [] E (tCons (tVar 10) tNil)))) (tRet (tC (.bl false))) tNext))
    (t_law_k09_19 K C_NoDeed s_l_cell_at s_l_word_by s_l_count s_l_figures_by s_l_signs s_l_deed_of s_read s_l_refused_by_any s_l_whole s_shown E))
def t_law_k09_17 (K : PySem.W.Frag) (C_NoDeed : Addr) (s_l_cell_at : Sp) (s_l_word_by : Sp) (s_l_count : Sp) (s_l_figures_by : Sp) (s_l_signs : Sp) (s_l_deed_of : Sp) (s_read : Sp) (s_l_refused_by_any : Sp) (s_l_whole : Sp) (s_shown : Sp) (E : XK) : TS :=
  (tSeq (tIfS (tOr (tB (tVar 9)) (tOr (tNot (tB (tCB (rIsi K) (tCons (tVar 8) (tCons (tC (.ty "tuple")) tNil))))) (tOr (tTest (tOp rNe (tCB (nLen K) (tCons (tVar 8) tNil)) (tCB (nLen K) (tCons (tVar 7) tNil)))) (tNot (tB (tCB (rIsi K) (tCons (tOp (rIxT K) (tVar 8) (tC (.int 0))) (tCons (tC (.ty "str")) tNil)))))))) (tRet (tC (.bl false))) tNext)
    (t_law_k09_18 K C_NoDeed s_l_cell_at s_l_word_by s_l_count s_l_figures_by s_l_signs s_l_deed_of s_read s_l_refused_by_any s_l_whole s_shown E))
def t_law_k09_16 (K : PySem.W.Frag) (C_NoDeed : Addr) (s_l_cell_at : Sp) (s_l_word_by : Sp) (s_l_count : Sp) (s_l_figures_by : Sp) (s_l_signs : Sp) (s_l_deed_of : Sp) (s_read : Sp) (s_l_refused_by_any : Sp) (s_l_whole : Sp) (s_shown : Sp) (E : XK) : TS :=
  (tSeq (tIfS (tTest (tOp nIs (tVar 7) (tC .non))) (tRet (tAndV (tVar 9) (tCall s_l_refused_by_any [] E (tCons (tVar 4) tNil)))) tNext)
    (t_law_k09_17 K C_NoDeed s_l_cell_at s_l_word_by s_l_count s_l_figures_by s_l_signs s_l_deed_of s_read s_l_refused_by_any s_l_whole s_shown E))
def t_law_k09_15 (K : PySem.W.Frag) (C_NoDeed : Addr) (s_l_cell_at : Sp) (s_l_word_by : Sp) (s_l_count : Sp) (s_l_figures_by : Sp) (s_l_signs : Sp) (s_l_deed_of : Sp) (s_read : Sp) (s_l_refused_by_any : Sp) (s_l_whole : Sp) (s_shown : Sp) (E : XK) : TS :=
  (tSeq (nTry K (.ref C_NoDeed) E (fun W => (tAsg (tCallS s_read (WE W) (tCons (tVar 4) tNil)) (gName 8))) (fun a cls d => (tAsg (tC (.bl true)) (gName 9))))
    (t_law_k09_16 K C_NoDeed s_l_cell_at s_l_word_by s_l_count s_l_figures_by s_l_signs s_l_deed_of s_read s_l_refused_by_any s_l_whole s_shown E))
def t_law_k09_14 (K : PySem.W.Frag) (C_NoDeed : Addr) (s_l_cell_at : Sp) (s_l_word_by : Sp) (s_l_count : Sp) (s_l_figures_by : Sp) (s_l_signs : Sp) (s_l_deed_of : Sp) (s_read : Sp) (s_l_refused_by_any : Sp) (s_l_whole : Sp) (s_shown : Sp) (E : XK) : TS :=
  (tSeq (tAsg (tC (.bl false)) (gName 9))
    (t_law_k09_15 K C_NoDeed s_l_cell_at s_l_word_by s_l_count s_l_figures_by s_l_signs s_l_deed_of s_read s_l_refused_by_any s_l_whole s_shown E))
def t_law_k09_13 (K : PySem.W.Frag) (C_NoDeed : Addr) (s_l_cell_at : Sp) (s_l_word_by : Sp) (s_l_count : Sp) (s_l_figures_by : Sp) (s_l_signs : Sp) (s_l_deed_of : Sp) (s_read : Sp) (s_l_refused_by_any : Sp) (s_l_whole : Sp) (s_shown : Sp) (E : XK) : TS :=
  (tSeq (tAsg (tC .non) (gName 8))
    (t_law_k09_14 K C_NoDeed s_l_cell_at s_l_word_by s_l_count s_l_figures_by s_l_signs s_l_deed_of s_read s_l_refused_by_any s_l_whole s_shown E))
def t_law_k09_12 (K : PySem.W.Frag) (C_NoDeed : Addr) (s_l_cell_at : Sp) (s_l_word_by : Sp) (s_l_count : Sp) (s_l_figures_by : Sp) (s_l_signs : Sp) (s_l_deed_of : Sp) (s_read : Sp) (s_l_refused_by_any : Sp) (s_l_whole : Sp) (s_shown : Sp) (E : XK) : TS :=
  (tSeq (tAsg (tCall s_l_deed_of [] E (tCons (tVar 4) tNil)) (gName 7))
    (t_law_k09_13 K C_NoDeed s_l_cell_at s_l_word_by s_l_count s_l_figures_by s_l_signs s_l_deed_of s_read s_l_refused_by_any s_l_whole s_shown E))
def t_law_k09_11 (K : PySem.W.Frag) (C_NoDeed : Addr) (s_l_cell_at : Sp) (s_l_word_by : Sp) (s_l_count : Sp) (s_l_figures_by : Sp) (s_l_signs : Sp) (s_l_deed_of : Sp) (s_read : Sp) (s_l_refused_by_any : Sp) (s_l_whole : Sp) (s_shown : Sp) (E : XK) : TS :=
  (tSeq (tIfS (tTest (tOp rEq (tOp nMod (tCall s_l_cell_at [] E (tCons (tVar 0) (tCons (tC (.int 6)) tNil))) (tC (.int 7))) (tC (.int 4)))) (tAsg (tOp nCatS (tSl rSlS (tVar 4) tNoPart (tPart (tVar 6))) (tSl rSlS (tVar 4) (tPart (tOp nAdd (tVar 6) (tC (.int 1)))) tNoPart)) (gName 4)) tNext)
    (t_law_k09_12 K C_NoDeed s_l_cell_at s_l_word_by s_l_count s_l_figures_by s_l_signs s_l_deed_of s_read s_l_refused_by_any s_l_whole s_shown E))
def t_law_k09_10 (K : PySem.W.Frag) (C_NoDeed : Addr) (s_l_cell_at : Sp) (s_l_word_by : Sp) (s_l_count : Sp) (s_l_figures_by : Sp) (s_l_signs : Sp) (s_l_deed_of : Sp) (s_read : Sp) (s_l_refused_by_any : Sp) (s_l_whole : Sp) (s_shown : Sp) (E : XK) : TS :=
  (tSeq (tIfS (tTest (tOp rEq (tOp nMod (tCall s_l_cell_at [] E (tCons (tVar 0) (tCons (tC (.int 6)) tNil))) (tC (.int 7))) (tC (.int 3)))) (tAsg (tOp nCatS (tOp nCatS (tSl rSlS (tVar 4) tNoPart (tPart (tVar 6))) (tOp rIxS (tCall s_l_signs [] E tNil) (tOp nMod (tCall s_l_cell_at [] E (tCons (tVar 0) (tCons (tC (.int 8)) tNil))) (tC (.int 96))))) (tSl rSlS (tVar 4) (tPart (tOp nAdd (tVar 6) (tC (.int 1)))) tNoPart)) (gName 4)) tNext)
    (t_law_k09_11 K C_NoDeed s_l_cell_at s_l_word_by s_l_count s_l_figures_by s_l_signs s_l_deed_of s_read s_l_refused_by_any s_l_whole s_shown E))
def t_law_k09_9 (K : PySem.W.Frag) (C_NoDeed : Addr) (s_l_cell_at : Sp) (s_l_word_by : Sp) (s_l_count : Sp) (s_l_figures_by : Sp) (s_l_signs : Sp) (s_l_deed_of : Sp) (s_read : Sp) (s_l_refused_by_any : Sp) (s_l_whole : Sp) (s_shown : Sp) (E : XK) : TS :=
  (tSeq (tIfS (tTest (tOp rEq (tOp nMod (tCall s_l_cell_at [] E (tCons (tVar 0) (tCons (tC (.int 6)) tNil))) (tC (.int 7))) (tC (.int 2)))) (tAsg (tOp nCatS (tOp nCatS (tSl rSlS (tVar 4) tNoPart (tPart (tVar 6))) (tOp rIxS (tCall s_l_signs [] E tNil) (tOp nMod (tCall s_l_cell_at [] E (tCons (tVar 0) (tCons (tC (.int 8)) tNil))) (tC (.int 96))))) (tSl rSlS (tVar 4) (tPart (tVar 6)) tNoPart)) (gName 4)) tNext)
    (t_law_k09_10 K C_NoDeed s_l_cell_at s_l_word_by s_l_count s_l_figures_by s_l_signs s_l_deed_of s_read s_l_refused_by_any s_l_whole s_shown E))
def t_law_k09_8 (K : PySem.W.Frag) (C_NoDeed : Addr) (s_l_cell_at : Sp) (s_l_word_by : Sp) (s_l_count : Sp) (s_l_figures_by : Sp) (s_l_signs : Sp) (s_l_deed_of : Sp) (s_read : Sp) (s_l_refused_by_any : Sp) (s_l_whole : Sp) (s_shown : Sp) (E : XK) : TS :=
  (tSeq (tIfS (tTest (tOp rEq (tOp nMod (tCall s_l_cell_at [] E (tCons (tVar 0) (tCons (tC (.int 6)) tNil))) (tC (.int 7))) (tC (.int 1)))) (tAsg (tOp nCatS (tOp nCatS (tSl rSlS (tVar 4) tNoPart (tPart (tVar 6))) (tC (.str " "))) (tSl rSlS (tVar 4) (tPart (tVar 6)) tNoPart)) (gName 4)) tNext)
    (t_law_k09_9 K C_NoDeed s_l_cell_at s_l_word_by s_l_count s_l_figures_by s_l_signs s_l_deed_of s_read s_l_refused_by_any s_l_whole s_shown E))
def t_law_k09_7 (K : PySem.W.Frag) (C_NoDeed : Addr) (s_l_cell_at : Sp) (s_l_word_by : Sp) (s_l_count : Sp) (s_l_figures_by : Sp) (s_l_signs : Sp) (s_l_deed_of : Sp) (s_read : Sp) (s_l_refused_by_any : Sp) (s_l_whole : Sp) (s_shown : Sp) (E : XK) : TS :=
  (tSeq (tAsg (tOp nMod (tCall s_l_cell_at [] E (tCons (tVar 0) (tCons (tC (.int 7)) tNil))) (tOp nAdd (tCB nLenS (tCons (tVar 4) tNil)) (tC (.int 1)))) (gName 6))
    (t_law_k09_8 K C_NoDeed s_l_cell_at s_l_word_by s_l_count s_l_figures_by s_l_signs s_l_deed_of s_read s_l_refused_by_any s_l_whole s_shown E))
def t_law_k09_6 (K : PySem.W.Frag) (C_NoDeed : Addr) (s_l_cell_at : Sp) (s_l_word_by : Sp) (s_l_count : Sp) (s_l_figures_by : Sp) (s_l_signs : Sp) (s_l_deed_of : Sp) (s_read : Sp) (s_l_refused_by_any : Sp) (s_l_whole : Sp) (s_shown : Sp) (E : XK) : TS :=
  (tSeq (tFor (iRng1 (tCons (tVar 2) tNil)) (gName 5)
    (tAsg (tOp nCatS (tOp nCatS (tVar 4) (tC (.str " "))) (tCall s_l_figures_by [] E (tCons (tCall s_l_cell_at [] E (tCons (tVar 0) (tCons (tOp nAdd (tC (.int 2)) (tVar 5)) tNil))) (tCons (tVar 3) tNil)))) (gName 4)))
    (t_law_k09_7 K C_NoDeed s_l_cell_at s_l_word_by s_l_count s_l_figures_by s_l_signs s_l_deed_of s_read s_l_refused_by_any s_l_whole s_shown E))
def t_law_k09_5 (K : PySem.W.Frag) (C_NoDeed : Addr) (s_l_cell_at : Sp) (s_l_word_by : Sp) (s_l_count : Sp) (s_l_figures_by : Sp) (s_l_signs : Sp) (s_l_deed_of : Sp) (s_read : Sp) (s_l_refused_by_any : Sp) (s_l_whole : Sp) (s_shown : Sp) (E : XK) : TS :=
  (tSeq (tAsg (tVar 1) (gName 4))
    (t_law_k09_6 K C_NoDeed s_l_cell_at s_l_word_by s_l_count s_l_figures_by s_l_signs s_l_deed_of s_read s_l_refused_by_any s_l_whole s_shown E))
def t_law_k09_4 (K : PySem.W.Frag) (C_NoDeed : Addr) (s_l_cell_at : Sp) (s_l_word_by : Sp) (s_l_count : Sp) (s_l_figures_by : Sp) (s_l_signs : Sp) (s_l_deed_of : Sp) (s_read : Sp) (s_l_refused_by_any : Sp) (s_l_whole : Sp) (s_shown : Sp) (E : XK) : TS :=
  (tSeq (tIfS (tTest (tOp nGt (tOp nMod (tCall s_l_cell_at [] E (tCons (tVar 0) (tCons (tC (.int 6)) tNil))) (tC (.int 7))) (tC (.int 2)))) (tAsg (tOp nPow (tC (.int 10)) (tC (.int 29))) (gName 3)) tNext)
    (t_law_k09_5 K C_NoDeed s_l_cell_at s_l_word_by s_l_count s_l_figures_by s_l_signs s_l_deed_of s_read s_l_refused_by_any s_l_whole s_shown E))
def t_law_k09_3 (K : PySem.W.Frag) (C_NoDeed : Addr) (s_l_cell_at : Sp) (s_l_word_by : Sp) (s_l_count : Sp) (s_l_figures_by : Sp) (s_l_signs : Sp) (s_l_deed_of : Sp) (s_read : Sp) (s_l_refused_by_any : Sp) (s_l_whole : Sp) (s_shown : Sp) (E : XK) : TS :=
  (tSeq (tAsg (tOp nPow (tC (.int 10)) (tC (.int 59))) (gName 3))
    (t_law_k09_4 K C_NoDeed s_l_cell_at s_l_word_by s_l_count s_l_figures_by s_l_signs s_l_deed_of s_read s_l_refused_by_any s_l_whole s_shown E))
def t_law_k09_2 (K : PySem.W.Frag) (C_NoDeed : Addr) (s_l_cell_at : Sp) (s_l_word_by : Sp) (s_l_count : Sp) (s_l_figures_by : Sp) (s_l_signs : Sp) (s_l_deed_of : Sp) (s_read : Sp) (s_l_refused_by_any : Sp) (s_l_whole : Sp) (s_shown : Sp) (E : XK) : TS :=
  (tSeq (tIfS (tTest (tOp rEq (tOp nMod (tCall s_l_cell_at [] E (tCons (tVar 0) (tCons (tC (.int 1)) tNil))) (tC (.int 2))) (tC (.int 1)))) (tAsg (tOp nMod (tOp nDiv (tCall s_l_cell_at [] E (tCons (tVar 0) (tCons (tC (.int 1)) tNil))) (tC (.int 2))) (tC (.int 5))) (gName 2)) tNext)
    (t_law_k09_3 K C_NoDeed s_l_cell_at s_l_word_by s_l_count s_l_figures_by s_l_signs s_l_deed_of s_read s_l_refused_by_any s_l_whole s_shown E))
def t_law_k09_1 (K : PySem.W.Frag) (C_NoDeed : Addr) (s_l_cell_at : Sp) (s_l_word_by : Sp) (s_l_count : Sp) (s_l_figures_by : Sp) (s_l_signs : Sp) (s_l_deed_of : Sp) (s_read : Sp) (s_l_refused_by_any : Sp) (s_l_whole : Sp) (s_shown : Sp) (E : XK) : TS :=
  (tSeq (tAsg (tCB nMax (tCons (tCall s_l_count [] E (tCons (tVar 1) tNil)) (tCons (tC (.int 0)) tNil))) (gName 2))
    (t_law_k09_2 K C_NoDeed s_l_cell_at s_l_word_by s_l_count s_l_figures_by s_l_signs s_l_deed_of s_read s_l_refused_by_any s_l_whole s_shown E))
def t_law_k09 (K : PySem.W.Frag) (C_NoDeed : Addr) (s_l_cell_at : Sp) (s_l_word_by : Sp) (s_l_count : Sp) (s_l_figures_by : Sp) (s_l_signs : Sp) (s_l_deed_of : Sp) (s_read : Sp) (s_l_refused_by_any : Sp) (s_l_whole : Sp) (s_shown : Sp) (E : XK) : TS :=
  (tSeq (tAsg (tCall s_l_word_by [] E (tCons (tCall s_l_cell_at [] E (tCons (tVar 0) (tCons (tC (.int 0)) tNil))) tNil)) (gName 1))
    (t_law_k09_1 K C_NoDeed s_l_cell_at s_l_word_by s_l_count s_l_figures_by s_l_signs s_l_deed_of s_read s_l_refused_by_any s_l_whole s_shown E))
end RB
namespace RB
open PySem PySem.Spec PyProof.Rows L2
def cutB : List Nat → List Nat → List (List Nat)
  | acc, [] => [acc]
  | acc, c :: r => if c = 32 then acc :: cutB [] r else cutB (acc ++ [c]) r
theorem cutB_ne : ∀ (l acc : List Nat), cutB acc l ≠ []
  | [], _ => by simp [cutB]
  | c :: r, acc => by
    unfold cutB
    split
    · simp
    · exact cutB_ne r _
theorem spl_cutB : ∀ (l acc : List Nat), TL.spl [32] 0 acc l = cutB acc l
  | [], acc => by rw [TL.spl_nil] <;> rfl
  | c :: r, acc => by
    unfold cutB
    by_cases h : c = 32
    · subst h
      rw [if_pos rfl, TL.spl_hit (show TL.pre [32] (32 :: r) = true from TL.pre_self [32] r), ← spl_cutB r []] <;> rfl
    · rw [if_neg h, TL.spl_miss (TL.pre_of_head [] r h), spl_cutB r]
theorem split_cutB (l : List Nat) : Txt.split (SX.S l) (SX.S [32]) = (cutB [] l).map SX.S := by
  rw [SX.split_S (by simp) (by decide), spl_cutB]
theorem join_cutB : ∀ (l acc : List Nat), TL.joinL [32] (cutB acc l) = acc ++ l
  | [], acc => by simp [cutB, TL.joinL]
  | c :: r, acc => by
    unfold cutB
    by_cases h : c = 32
    · subst h
      rw [if_pos rfl]
      obtain ⟨p, ps, e⟩ : ∃ p ps, cutB [] r = p :: ps := by
        cases e : cutB [] r with
        | nil => exact absurd e (cutB_ne r [])
        | cons p ps => exact ⟨p, ps, rfl⟩
      have ih := join_cutB r []
      rw [e] at ih ⊢
      show acc ++ ([32] ++ TL.joinL [32] (p :: ps)) = _
      rw [ih, List.nil_append] <;> rfl
    · rw [if_neg h, join_cutB r, List.append_assoc] <;> rfl
theorem cutB_len : ∀ (l acc : List Nat), ∀ p ∈ cutB acc l, p.length ≤ acc.length + l.length
  | [], acc, p, hp => by
    rw [cutB] at hp
    rw [List.mem_singleton.mp hp]
    omega
  | c :: r, acc, p, hp => by
    unfold cutB at hp
    split at hp
    · rcases List.mem_cons.mp hp with rfl | hp
      · omega
      · have z := cutB_len r [] p hp
        rw [List.length_cons]
        rw [List.length_nil] at z
        omega
    · have z := cutB_len r _ p hp
      rw [List.length_append, List.length_singleton] at z
      rw [List.length_cons]
      omega
theorem cutB_many : ∀ (l acc : List Nat), (cutB acc l).length ≤ l.length + 1
  | [], acc => by simp [cutB]
  | c :: r, acc => by
    unfold cutB
    split
    · have z := cutB_many r []
      rw [List.length_cons, List.length_cons]
      omega
    · have z := cutB_many r (acc ++ [c])
      rw [List.length_cons]
      omega
def stepB (x : List (List Nat) × List Nat) (c : Nat) : List (List Nat) × List Nat := if c = 32 then (x.1 ++ [x.2], []) else (x.1, x.2 ++ [c])
theorem fold_cutB : ∀ (l acc : List Nat) (ps : List (List Nat)), (l ++ [32]).foldl stepB (ps, acc) = (ps ++ cutB acc l, [])
  | [], acc, ps => rfl
  | c :: r, acc, ps => by
    rw [List.cons_append, List.foldl_cons]
    unfold cutB
    by_cases h : c = 32
    · rw [show stepB (ps, acc) c = (ps ++ [acc], []) from if_pos h, fold_cutB r, if_pos h, List.append_assoc] <;> rfl
    · rw [show stepB (ps, acc) c = (ps, acc ++ [c]) from if_neg h, fold_cutB r, if_neg h]
theorem fold_len : ∀ (l : List Nat) (x : List (List Nat) × List Nat) (m : Nat), x.1.length ≤ m → x.2.length ≤ m → (∀ p ∈ x.1, p.length ≤ m) → (l.foldl stepB x).1.length ≤ m + l.length ∧ (l.foldl stepB x).2.length ≤ m + l.length
  | [], x, m, h1, h2, _ => ⟨h1, h2⟩
  | c :: r, x, m, h1, h2, h3 => by
    rw [List.foldl_cons, List.length_cons]
    have z := fold_len r (stepB x c) (m + 1) (by unfold stepB; split <;> simp <;> omega) (by unfold stepB; split <;> simp <;> omega) (by
      intro p hp
      unfold stepB at hp
      split at hp
      · rcases List.mem_append.mp hp with hp | hp
        · have := h3 p hp
          omega
        · rw [List.mem_singleton.mp hp]
          omega
      · have := h3 p hp
        omega)
    omega
def dig (c : Nat) : Bool := decide (48 ≤ c ∧ c ≤ 57)
def fig (l : List Nat) : List Nat := if l.head? = some 45 then l.tail else l
def okN (l : List Nat) : Bool := !(fig l).isEmpty && ((fig l).all dig && (!decide ((fig l).head? = some 48) || decide (l = [48])))
def valN (l : List Nat) : Int := if l.head? = some 45 then -((NumText.digitsVal (fig l) : Nat) : Int) else ((NumText.digitsVal (fig l) : Nat) : Int)
theorem dig_mem (c : Nat) : decide (c ∈ ([48, 49, 50, 51, 52, 53, 54, 55, 56, 57] : List Nat)) = dig c := by
  unfold dig
  simp only [List.mem_cons, List.not_mem_nil, or_false]
  exact decide_eq_decide.mpr (by omega)
theorem okN_iff {l : List Nat} : okN l = true ↔ fig l ≠ [] ∧ NumText.AllDigits (fig l) ∧ ((fig l).head? = some 48 → l = [48]) := by
  unfold okN
  rw [Bool.and_eq_true, Bool.and_eq_true, Bool.or_eq_true, Bool.not_eq_true', Bool.not_eq_true', decide_eq_true_eq, decide_eq_false_iff_not, List.all_eq_true, List.isEmpty_eq_false_iff]
  constructor
  · rintro ⟨h1, h2, h3⟩
    refine ⟨h1, fun c hc => of_decide_eq_true (h2 c hc), fun h => ?_⟩
    rcases h3 with h3 | h3
    · exact absurd h h3
    · exact h3
  · rintro ⟨h1, h2, h3⟩
    refine ⟨h1, fun c hc => decide_eq_true (h2 c hc), ?_⟩
    by_cases h : (fig l).head? = some 48
    · exact .inr (h3 h)
    · exact .inl h
theorem fig_len (l : List Nat) : (fig l).length ≤ l.length := by
  unfold fig
  split
  · rw [List.length_tail]
    omega
  · omega
theorem vfold : ∀ (l : List Nat) (a k : Nat), NumText.AllDigits l → a < 10 ^ k → l.foldl (fun acc c => acc * 10 + (c - 48)) a < 10 ^ (k + l.length)
  | [], a, k, _, h => h
  | c :: r, a, k, hd, h => by
    have hc := hd.head
    rw [List.foldl_cons, List.length_cons]
    have z := vfold r (a * 10 + (c - 48)) (k + 1) hd.tail (by
      rw [Nat.pow_succ]
      generalize 10 ^ k = m at h ⊢
      omega)
    rw [show k + (r.length + 1) = k + 1 + r.length by omega]
    exact z
theorem val_lt {l : List Nat} (h : NumText.AllDigits l) : NumText.digitsVal l < 10 ^ l.length := by
  have z := vfold l 0 0 h (by decide)
  rw [Nat.zero_add] at z
  exact z
theorem val_snoc (l : List Nat) (c : Nat) : NumText.digitsVal (l ++ [c]) = NumText.digitsVal l * 10 + (c - 48) := by
  unfold NumText.digitsVal
  rw [List.foldl_append] <;> rfl
theorem snoc_ind {P : List Nat → Prop} (h0 : P []) (h1 : ∀ l c, P l → P (l ++ [c])) (l : List Nat) : P l := by
  have z : ∀ m : List Nat, P m.reverse := fun m => by
    induction m with
    | nil => exact h0
    | cons c m ih =>
      rw [List.reverse_cons]
      exact h1 _ c ih
  have w := z l.reverse
  rw [List.reverse_reverse] at w
  exact w
theorem val_pos : ∀ {l : List Nat}, l ≠ [] → NumText.AllDigits l → l.head? ≠ some 48 → 0 < NumText.digitsVal l := by
  intro l
  induction l using snoc_ind with
  | h0 => intro h; exact absurd rfl h
  | h1 l c ih =>
    intro _ hd h0
    rw [val_snoc]
    have hc := hd c (List.mem_append_right _ (List.mem_singleton.mpr rfl))
    cases l with
    | nil =>
      have : c ≠ 48 := fun z => h0 (by rw [z] <;> rfl)
      omega
    | cons d r =>
      have z := ih (by simp) (fun x hx => hd x (List.mem_append_left _ hx)) (by simpa using h0)
      omega
theorem numL_back : ∀ {l : List Nat}, l ≠ [] → NumText.AllDigits l → (l.head? = some 48 → l = [48]) → TL.numL (NumText.digitsVal l) = l := by
  intro l
  induction l using snoc_ind with
  | h0 => intro h; exact absurd rfl h
  | h1 l c ih =>
    intro _ hd h0
    have hc := hd c (List.mem_append_right _ (List.mem_singleton.mpr rfl))
    rw [val_snoc]
    cases l with
    | nil =>
      show TL.numL (0 * 10 + (c - 48)) = [c]
      rw [TL.numL_lt (by omega)]
      congr 1
      omega
    | cons d r =>
      have hd' : NumText.AllDigits (d :: r) := fun x hx => hd x (List.mem_append_left _ hx)
      have h0' : (d :: r).head? ≠ some 48 := fun z => by
        have e := h0 (by simpa using z)
        have := congrArg List.length e
        simp at this
      have p := val_pos (by simp) hd' h0'
      have z := ih (by simp) hd' fun y => absurd y h0'
      generalize NumText.digitsVal (d :: r) = v at p z ⊢
      rw [TL.numL_step (by omega), show (v * 10 + (c - 48)) / 10 = v by omega, show 48 + (v * 10 + (c - 48)) % 10 = c by omega, z]
theorem toS_nat (n : Nat) : Str.ofString (toString ((n : Nat) : Int)) = SX.S (TL.numL n) := TL.ext_tl (TL.tl_num n)
theorem toS_neg {n : Nat} (h : 0 < n) : Str.ofString (toString (-((n : Nat) : Int))) = SX.S (45 :: TL.numL n) := by
  refine TL.ext_tl ?_
  show TL.tl _ = 45 :: TL.numL n
  rw [TL.tl_ofString]
  obtain ⟨m, rfl⟩ : ∃ m, n = m + 1 := ⟨n - 1, by omega⟩
  have e : toString (-((m + 1 : Nat) : Int)) = "-" ++ Nat.repr (m + 1) := rfl
  rw [e, String.toList_append, List.map_append, Nat.toList_repr] <;> rfl
theorem text_back {l : List Nat} (h : okN l = true) : Str.ofString (toString (valN l)) = SX.S l := by
  obtain ⟨h1, h2, h3⟩ := okN_iff.mp h
  unfold valN
  by_cases hm : l.head? = some 45
  · obtain ⟨r, rfl⟩ : ∃ r, l = 45 :: r := by
      cases l with
      | nil => cases hm
      | cons c r =>
        cases hm
        exact ⟨r, rfl⟩
    rw [if_pos hm]
    have ef : fig (45 :: r) = r := if_pos rfl
    rw [ef] at h1 h2 h3 ⊢
    have n0 : r.head? ≠ some 48 := fun z => by
      have := h3 z
      cases this
    rw [toS_neg (val_pos h1 h2 n0), numL_back h1 h2 fun z => absurd z n0]
  · have ef : fig l = l := if_neg hm
    rw [if_neg hm]
    rw [ef] at h1 h2 h3 ⊢
    rw [toS_nat, numL_back h1 h2 h3]
theorem int_read {l : List Nat} (h : okN l = true) (hl : l.length ≤ 640) : PySem.intText? (SX.S l) = some (valN l) := by
  obtain ⟨h1, h2, h3⟩ := okN_iff.mp h
  have sl : (SX.S l).length = l.length := SX.S_len l
  unfold valN
  by_cases hm : l.head? = some 45
  · obtain ⟨r, rfl⟩ : ∃ r, l = 45 :: r := by
      cases l with
      | nil => cases hm
      | cons c r =>
        cases hm
        exact ⟨r, rfl⟩
    rw [if_pos hm]
    have ef : fig (45 :: r) = r := if_pos rfl
    rw [ef] at h1 h2 h3 ⊢
    exact intText_neg (x := SX.S (45 :: r)) rfl h2 h1 (by rw [sl]; omega)
  · have ef : fig l = l := if_neg hm
    rw [if_neg hm]
    rw [ef] at h1 h2 h3 ⊢
    exact intText_digits (x := SX.S l) h2 h1 (by rw [sl]; omega)
theorem valN_small {l : List Nat} (h : okN l = true) (hl : l.length ≤ 400) : (valN l).natAbs.log2 < 1920 := by
  obtain ⟨h1, h2, h3⟩ := okN_iff.mp h
  have e : (valN l).natAbs = NumText.digitsVal (fig l) := by
    unfold valN
    split
    · rw [Int.natAbs_neg, Int.natAbs_natCast]
    · rw [Int.natAbs_natCast]
  rw [e]
  have z := val_lt h2
  have w := fig_len l
  have b : (10 : Nat) ^ (fig l).length ≤ (2 ^ 4) ^ 400 := Nat.le_trans (Nat.pow_le_pow_left (by decide : 10 ≤ 2 ^ 4) _) (Nat.pow_le_pow_right (by decide) (by omega))
  have c : NumText.digitsVal (fig l) < 2 ^ 1600 := Nat.lt_of_lt_of_le z (Nat.le_trans b (by rw [← Nat.pow_mul]; exact Nat.pow_le_pow_right (by decide) (by decide)))
  by_cases h0 : NumText.digitsVal (fig l) = 0
  · rw [h0]
    decide
  · exact Nat.lt_of_lt_of_le (Nat.log2_lt h0 |>.mpr c) (by decide)
theorem okN_other (l : List Nat) : okN l = (!(fig l).isEmpty && (!decide (l = [45, 48]) && (!(decide (1 < (fig l).length) && decide ((fig l).head? = some 48)) && (fig l).all dig))) := by
  have key : ∀ a b c d e : Bool, (a = true → b = true → (c = e)) → a = a → (a && (b && c)) = (a && (b && e)) := fun a b c d e h _ => by
    cases a <;> cases b <;> simp_all
  rw [show ∀ a b c d : Bool, (a && (b && (c && d))) = (a && (d && (b && c))) from fun a b c d => by cases a <;> cases b <;> cases c <;> cases d <;> rfl]
  unfold okN
  refine key _ _ _ false _ (fun h1 _ => ?_) rfl
  have hne : fig l ≠ [] := by
    intro z
    rw [z] at h1
    cases h1
  by_cases hm : l.head? = some 45
  · obtain ⟨r, rfl⟩ : ∃ r, l = 45 :: r := by
      cases l with
      | nil => cases hm
      | cons c r =>
        cases hm
        exact ⟨r, rfl⟩
    have ef : fig (45 :: r) = r := if_pos rfl
    rw [ef] at hne ⊢
    cases r with
    | nil => exact absurd rfl hne
    | cons c r =>
      by_cases hc : c = 48
      · subst hc
        cases r with
        | nil => rfl
        | cons d r => simp
      · simp [hc]
  · have ef : fig l = l := if_neg hm
    rw [ef] at hne ⊢
    cases l with
    | nil => exact absurd rfl hne
    | cons c r =>
      have hc5 : c ≠ 45 := fun z => hm (by rw [z] <;> rfl)
      by_cases hc : c = 48
      · subst hc
        cases r with
        | nil => simp
        | cons d r => simp
      · simp [hc, hc5]
end RB
namespace RB
open PySem PySem.Spec PyProof.Rows L2 LamX NdefX
section
variable {H : Hp} {Q : VK} {σ : L2.St} {K : PySem.W.Frag} {a b : Str} {l : List Nat}
theorem nCatS_ap : nCatS (.str a) (.str b) H Q = (a.length + b.length ≤ sizeLine ∧ Q (.str (a ++ b)) H) := by simp [nCatS]
theorem rEqT_ap : rEq (.str a) (.str b) H Q = Q (.bl (decide (a = b))) H := by simp [rEq, scal]
theorem rNeT_ap : rNe (.str a) (.str b) H Q = Q (.bl (!decide (a = b))) H := by simp [rNe, scal]
theorem nPfx_ap : nPfx (.str a) [.str b] H Q = (a.length ≤ sizeLine ∧ Q (.str (Txt.removeprefix a b)) H) := by simp [nPfx]
theorem nStr_int {i : Int} : nStr [.int i] H Q = (i.natAbs.log2 < 1920 ∧ Q (.str (toString i)) H) := by simp [nStr]
theorem nStr_str : nStr [.str a] H Q = Q (.str a) H := by simp [nStr]
theorem lit0 : ("" : Str) = SX.S [] := by decide +kernel
theorem lit1 : ("0" : Str) = SX.S [48] := by decide +kernel
theorem lit2 : ("-" : Str) = SX.S [45] := by decide +kernel
theorem lit3 : ("-0" : Str) = SX.S [45, 48] := by decide +kernel
theorem lit4 : (" " : Str) = SX.S [32] := by decide +kernel
theorem S_eq {l m : List Nat} : (SX.S l = SX.S m) = (l = m) := propext ⟨SX.S_inj, fun e => by rw [e]⟩
theorem is_empty : (SX.S l = "") = (l = []) := by rw [lit0, S_eq]
theorem is_zero : (SX.S l = "0") = (l = [48]) := by rw [lit1, S_eq]
theorem is_minus : (SX.S l = "-") = (l = [45]) := by rw [lit2, S_eq]
theorem is_mzero : (SX.S l = "-0") = (l = [45, 48]) := by rw [lit3, S_eq]
theorem is_blank : (SX.S l = " ") = (l = [32]) := by rw [lit4, S_eq]
theorem ten : ("0123456789" : Str).cps.toList = [48, 49, 50, 51, 52, 53, 54, 55, 56, 57] := by decide +kernel
theorem pfx_fig : Txt.removeprefix (SX.S l) "-" = SX.S (fig l) := by
  rw [StrLaws.removeprefix_eq, lit2]
  cases l with
  | nil => rfl
  | cons c r =>
    have sub : Builtin.Str.subAt (SX.S (c :: r)) (SX.S [45]) 0 = decide (c = 45) := by
      unfold Builtin.Str.subAt
      have e : (SX.S (c :: r)).cps.extract 0 (0 + (SX.S [45]).length) = #[c] := by simp [SX.S, Str.length]
      rw [e]
      by_cases h : c = 45
      · subst h; rfl
      · rw [decide_eq_false h]
        refine beq_eq_false_iff_ne.mpr fun z => h ?_
        have := congrArg Array.toList z
        simpa using this
    rw [sub]
    by_cases h : c = 45
    · subst h
      have ef : fig (45 :: r) = r := if_pos rfl
      rw [if_pos (by simp [SX.S, Str.length]), ef]
      simp [SX.S, Str.length]
    · have ef : fig (c :: r) = c :: r := if_neg (by simpa using h)
      rw [if_neg (by simp [h]), ef]
theorem ixS_ap {j c : Nat} (hz : l.length ≤ 16000000) (h : l[j]? = some c) (q : Q (.str (SX.S [c])) H) : rIxS (.str (SX.S l)) (.int j) H Q :=
  ⟨SX.S l, j, c, rfl, rfl, by rw [SX.S_len]; exact Nat.le_of_lt (size_of hz), atI_nat h, q⟩
theorem notSign_ap {c : Nat} : nNotSign (.str (SX.S [c])) (.str "0123456789") H Q = Q (.bl (!dig c)) H := by
  apply propext
  constructor
  · rintro ⟨c', z, e1, e2, q⟩
    have e1 := SX.S_inj (V.str.inj e1)
    cases e1
    cases e2
    rw [ten, dig_mem] at q
    exact q
  · intro q
    refine ⟨c, _, rfl, rfl, ?_⟩
    rw [ten, dig_mem]
    exact q
def nLcS (elt : TE) (i : Nat) (σ : L2.St) (x : V) (H : Hp) (Q : VK) : Prop := tLc (iStr (tC x)) (gName i) tYes elt [i] σ H Q
theorem tLcS_ap {te elt : TE} {i : Nat} : tLc (iStr te) (gName i) tYes elt [i] σ H Q = te σ H fun x H1 => nLcS elt i σ x H1 Q := rfl
def nLcT (K : PySem.W.Frag) (elt : TE) (i : Nat) (σ : L2.St) (x : V) (H : Hp) (Q : VK) : Prop := tLc (iTup K (tC x)) (gName i) tYes elt [i] σ H Q
theorem tLcT_ap {te elt : TE} {i : Nat} : tLc (iTup K te) (gName i) tYes elt [i] σ H Q = te σ H fun x H1 => nLcT K elt i σ x H1 Q := rfl
def nForS (i : Nat) (tb : TS) (x : V) (D : Ends) (σ : L2.St) (H : Hp) : Prop := tFor (iStr (tC x)) (gName i) tb D σ H
theorem tForS_ap {te : TE} {i : Nat} {tb : TS} {D : Ends} : tFor (iStr te) (gName i) tb D σ H = te σ H fun x H1 => nForS i tb x D σ H1 := rfl
def nForT (K : PySem.W.Frag) (i : Nat) (tb : TS) (x : V) (D : Ends) (σ : L2.St) (H : Hp) : Prop := tFor (iTup K (tC x)) (gName i) tb D σ H
theorem tForT_ap {te : TE} {i : Nat} {tb : TS} {D : Ends} : tFor (iTup K te) (gName i) tb D σ H = te σ H fun x H1 => nForT K i tb x D σ H1 := rfl
theorem lc_str {elt : TE} {i : Nat} {H1 : Hp} {ys : List V} (hz : l.length ≤ 16000000) (hl : ys.length = l.length)
    (he : ∀ (j c : Nat) (y : V) (H' : Hp) (Q' : VK), l[j]? = some c → ys[j]? = some y → Same H1 H' → Q' y H' → elt ((wipe σ [i]).set i (some (.str (SX.S [c])))) H' Q')
    (q : ∀ (D : Addr) (H' : Hp), Same H1 H' → H1 D = none → H' D = some (.lst ys) → Q (.ref D) H') : nLcS elt i σ (.str (SX.S l)) H1 Q := by
  have sz : (SX.S l).cps.size = l.length := by simp [SX.S]
  refine ⟨SX.S l, rfl, fun D hD => lc_it (walk_str (z := SX.S l)) (fun k H' => Same H1 H' ∧ H' D = some (.lst (ys.take k))) ?_ (fun _ _ _ _ => trivial) ?_ ?_⟩
  · exact ⟨same_new hD _, upd_same⟩
  · rintro k x H' H2 hk ⟨s, hd⟩ ⟨rfl, c, hc, rfl⟩
    rw [sz] at hk
    have hc' : l[k]? = some c := by simpa [SX.S] using hc
    have hy : ys[k]? = some ys[k] := List.getElem?_eq_getElem (by omega)
    refine ⟨wipe_one, ?_⟩
    simp only [tYes, if_true]
    refine he k c _ H2 _ hc' hy s ⟨_, hd, ?_, ?_, ?_⟩
    · rw [List.length_take]
      exact Nat.lt_of_le_of_lt (Nat.min_le_left _ _) (size_of (by omega))
    · intro b u z
      rw [upd_ne (ne_of_none z hD)]
      exact s b u z
    · rw [upd_same, take_more hy]
  · rintro H' ⟨s, hd⟩
    rw [sz, ← hl, List.take_length] at hd
    exact q D H' s hD hd
theorem lc_tup {elt : TE} {i : Nat} {H1 : Hp} {p : Addr} {xs ys : List V} (hs : H1 p = some (.tup xs)) (hz : xs.length ≤ 16000000) (hl : ys.length = xs.length)
    (he : ∀ (j : Nat) (x y : V) (H' : Hp) (Q' : VK), xs[j]? = some x → ys[j]? = some y → Same H1 H' → Q' y H' → elt ((wipe σ [i]).set i (some x)) H' Q')
    (q : ∀ (D : Addr) (H' : Hp), Same H1 H' → H1 D = none → H' D = some (.lst ys) → Q (.ref D) H') : nLcT K elt i σ (.ref p) H1 Q := by
  refine ⟨p, rfl, ⟨_, SqT.of hs⟩, fun D hD => lc_it (walk_tup (K := K) (a := p) (xs := xs)) (fun k H' => Same H1 H' ∧ H' D = some (.lst (ys.take k))) ?_ ?_ ?_ ?_⟩
  · exact ⟨same_new hD _, upd_same⟩
  · rintro k H' _ ⟨s, _⟩
    exact SqT.of (s _ _ hs)
  · rintro k x H' H2 hk ⟨s, hd⟩ ⟨rfl, hx⟩
    have hy : ys[k]? = some ys[k] := List.getElem?_eq_getElem (by omega)
    refine ⟨wipe_one, ?_⟩
    simp only [tYes, if_true]
    refine he k x _ H2 _ hx hy s ⟨_, hd, ?_, ?_, ?_⟩
    · rw [List.length_take]
      exact Nat.lt_of_le_of_lt (Nat.min_le_left _ _) (size_of (by omega))
    · intro b u z
      rw [upd_ne (ne_of_none z hD)]
      exact s b u z
    · rw [upd_same, take_more hy]
  · rintro H' ⟨s, hd⟩
    rw [← hl, List.take_length] at hd
    exact q D H' s hD hd
end
local macro_rules | `(tactic| walk_at "ev") => `(tactic| try simp only [tSeq, tIfS, tTest, tNot, tAnd, tOr, tB, tOp, tUn, tVar, tC, tRet, tAsg, gName, tNext, tCB, tCons, tNil, tDrop, tRaise, tChain, tChain3, tAndV, tOrV, tNotV, tIf, tCall, tFld_ap, tLc_ap, tLcR_ap, tFor_ap, tForR_ap, tForR2_ap, nTry, nTryAs, tCallS, tKnown, tBM, gSub, tSl, tNoPart, tPart, tLst, tTup, wipe,
  List.getElem?_cons_zero, List.getElem?_cons_succ, List.set_cons_zero, List.set_cons_succ, ex_some, ex_bl, ex_int, List.nil_append, List.cons_append, List.append_nil,
  nAdd_ap, nSub_ap, nLt_ap, nLe_ap, nGt_ap, nGe_ap, nMul_ap, nMulW_ap, nDiv_ap, nMod_ap, nPow_ap, nNeg_ap, nMax_ap, nMin_ap, rEq_ap, rNe_ap, nIs_ap, nIsNot_ap, dec_int_non, dec_ref_non, dec_non_non, ref_non, int_non, non_ref, non_int, isi_int_int, isi_int_bool,
  decide_eq_true_eq, Bool.not_eq_true', decide_eq_false_iff_not, decide_true, decide_false, Bool.not_true, Bool.not_false, ite_tt', ite_ff', Bool.false_eq_true, Bool.true_eq_false, not_true_eq_false, not_false_eq_true, if_true, if_false, tM1, nCatS_ap, rEqT_ap, rNeT_ap, nPfx_ap, pfx_fig, is_empty, is_zero, is_minus, is_mzero, is_blank, tLcS_ap, tLcT_ap, tForS_ap, tForT_ap, StX.tStar, nStr_int, nStr_str, SX.S_cat, SX.S_len])
section
variable {K : PySem.W.Frag} {CD : Addr}
def sp_is_number : Sp := fun vs H Q _ => ∃ l : List Nat, vs = [.str (SX.S l)] ∧ l.length ≤ 1000 ∧ ∀ H', Same H H' → Q (.bl (okN l)) H'
theorem p_is_number (vs : List V) (H : Hp) (Q : VK) (E : XK) (h : sp_is_number vs H Q E) : t_is_number K E { nx := fun _ H' => Q .non H', rt := Q } (start ["text", "figures", "sign"] vs) H := by
  obtain ⟨l, rfl, hl, q⟩ := h
  have hf := fig_len l
  show t_is_number K E _ [some (.str (SX.S l)), none, none] H
  unfold t_is_number
  walk_at "ev"
  refine ⟨⟨_, rfl⟩, by rw [sizeLine_eq]; omega, ?_⟩
  split
  · rename_i h0
    have e : okN l = false := by
      unfold okN
      rw [h0] <;> rfl
    rw [e] at q
    exact q H (.refl H)
  · rename_i h0
    refine lc_str (ys := (fig l).map fun c => V.bl (!dig c)) (by omega) (by rw [List.length_map]) (fun j c y H' Q' hc hy s q' => ?_) fun D H' s hD hd => ?_
    · rw [List.getElem?_map, hc] at hy
      cases hy
      walk_at "ev"
      rw [notSign_ap]
      exact q'
    · refine ⟨D, (fig l).map (fun c => !dig c), rfl, SqL.of (by rw [hd, List.map_map] <;> rfl), ?_⟩
      walk_at "ev"
      obtain ⟨c, r, e⟩ : ∃ c r, fig l = c :: r := by
        cases e : fig l with
        | nil => exact absurd e h0
        | cons c r => exact ⟨c, r, rfl⟩
      have ea : (List.map (fun c => !dig c) (fig l)).any id = !(fig l).all dig := by
        generalize fig l = m
        induction m with
        | nil => rfl
        | cons x m ih => simp only [List.map_cons, List.any_cons, List.all_cons, ih, id, Bool.not_and]
      rw [ea]
      have hne : (fig l).isEmpty = false := by rw [e] <;> rfl
      split
      · rename_i hb
        have eo : okN l = false := by
          unfold okN
          rw [show (fig l).all dig = false by simpa using hb, hne] <;> rfl
        rw [eo] at q
        exact q H' s
      · rename_i hb
        have hb' : (fig l).all dig = true := by simpa using hb
        refine ixS_ap (j := 0) (by omega) (by rw [e] <;> rfl) ?_
        walk_at "ev"
        have eo : okN l = (!decide (c = 48) || decide (l = [48])) := by
          unfold okN
          rw [hb', hne, e]
          simp
        rw [eo] at q
        have q' := q H' s
        by_cases hc : c = 48
        · subst hc
          simpa using q'
        · simpa [hc] using q'
def sp_number_of (CD : Addr) : Sp := fun vs H Q E => ∃ l : List Nat, vs = [.str (SX.S l)] ∧ l.length ≤ 600 ∧ (okN l = true → ∀ H', Same H H' → Q (.int (valN l)) H') ∧ (okN l = false → ∀ H', Same H H' → E (.ref CD) none H')
theorem p_number_of (vs : List V) (H : Hp) (Q : VK) (E : XK) (h : sp_number_of CD vs H Q E) : t_number_of CD sp_is_number E { nx := fun _ H' => Q .non H', rt := Q } (start ["text"] vs) H := by
  obtain ⟨l, rfl, hl, q1, q2⟩ := h
  show t_number_of CD sp_is_number E _ [some (.str (SX.S l))] H
  unfold t_number_of
  walk_at "ev"
  refine ⟨l, rfl, by omega, fun H' s => ?_⟩
  walk_at "ev"
  cases e : okN l with
  | false => exact q2 e H' s
  | true =>
    exact ⟨SX.S l, valN l, rfl, int_read e (by omega), by rw [SX.S_len]; omega, q1 e H' s⟩
end
end RB
namespace RB
open PySem PySem.Spec PyProof.Rows L2 LamX NdefX
local macro_rules | `(tactic| walk_at "ev") => `(tactic| try simp only [tSeq, tIfS, tTest, tNot, tAnd, tOr, tB, tOp, tUn, tVar, tC, tRet, tAsg, gName, tNext, tCB, tCons, tNil, tDrop, tRaise, tChain, tChain3, tAndV, tOrV, tNotV, tIf, tCall, tFld_ap, tLc_ap, tLcR_ap, tFor_ap, tForR_ap, tForR2_ap, nTry, nTryAs, tCallS, tKnown, tBM, gSub, tSl, tNoPart, tPart, tLst, tTup, wipe,
  List.getElem?_cons_zero, List.getElem?_cons_succ, List.set_cons_zero, List.set_cons_succ, ex_some, ex_bl, ex_int, List.nil_append, List.cons_append, List.append_nil,
  nAdd_ap, nSub_ap, nLt_ap, nLe_ap, nGt_ap, nGe_ap, nMul_ap, nMulW_ap, nDiv_ap, nMod_ap, nPow_ap, nNeg_ap, nMax_ap, nMin_ap, rEq_ap, rNe_ap, nIs_ap, nIsNot_ap, dec_int_non, dec_ref_non, dec_non_non, ref_non, int_non, non_ref, non_int, isi_int_int, isi_int_bool,
  decide_eq_true_eq, Bool.not_eq_true', decide_eq_false_iff_not, decide_true, decide_false, Bool.not_true, Bool.not_false, ite_tt', ite_ff', Bool.false_eq_true, Bool.true_eq_false, not_true_eq_false, not_false_eq_true, if_true, if_false, tM1, nCatS_ap, rEqT_ap, rNeT_ap, nPfx_ap, pfx_fig, is_empty, is_zero, is_minus, is_mzero, is_blank, tLcS_ap, tLcT_ap, tForS_ap, tForT_ap, StX.tStar, nStr_int, nStr_str, SX.S_cat, SX.S_len])
def cnt (z : Str) : Int := if z = "add" ∨ z = "fill" then 3 else if z ∈ (["total", "least", "place", "first", "list"] : List Str) then 2 else if z = "back" then 0 else -1
def due (l : List Nat) : Option (List Nat × List Int) := match cutB [] l with
  | [] => none
  | w :: ts => if cnt (SX.S w) = ts.length ∧ ts.all okN = true then some (w, ts.map valN) else none
def Many (K : PySem.W.Frag) (D : Addr) : Prop := ∀ z : Str, (cnt z = -1 → PySem.W.nsIn K D z = some none) ∧ (cnt z ≠ -1 → ∃ t, PySem.W.nsIn K D z = some (some (.int (cnt z) t)))
theorem cutB_sum : ∀ (l acc : List Nat), ((cutB acc l).map List.length).sum ≤ acc.length + l.length
  | [], acc => by simp [cutB]
  | c :: r, acc => by
    unfold cutB
    split
    · have z := cutB_sum r []
      rw [List.map_cons, List.sum_cons, List.length_cons]
      rw [List.length_nil] at z
      omega
    · have z := cutB_sum r (acc ++ [c])
      rw [List.length_append, List.length_singleton] at z
      rw [List.length_cons]
      omega
theorem due_some {l w : List Nat} {ns : List Int} (h : due l = some (w, ns)) : ∃ ts, cutB [] l = w :: ts ∧ cnt (SX.S w) = ts.length ∧ ts.all okN = true ∧ ns = ts.map valN := by
  unfold due at h
  split at h
  · cases h
  · rename_i w' ts e
    split at h
    · rename_i hc
      cases h
      exact ⟨ts, e, hc.1, hc.2, rfl⟩
    · cases h
theorem lc_mapE {K : PySem.W.Frag} {elt : TE} {i : Nat} {σ : L2.St} {H1 : Hp} {Q : VK} {a : Addr} {xs ys : List V} {ok : Nat → Prop} (hs : SqL K H1 a xs) (hz : xs.length ≤ 16000000) (hl : ys.length = xs.length)
    (he : ∀ (j : Nat) (x y : V) (H' : Hp) (Q' : VK), xs[j]? = some x → ys[j]? = some y → Same H1 H' → (ok j → ∀ H'', Same H' H'' → Q' y H'') → elt ((wipe σ [i]).set i (some x)) H' Q')
    (q : (∀ j, j < xs.length → ok j) → ∀ (D : Addr) (H' : Hp), Same H1 H' → H1 D = none → H' D = some (.lst ys) → Q (.ref D) H') : nLc K elt i σ (.ref a) H1 Q := by
  refine ⟨a, rfl, ⟨_, hs⟩, fun D hD => lc_list (K := K) (a := a) (xs := xs) (fun k H' => Same H1 H' ∧ H' D = some (.lst (ys.take k)) ∧ ∀ j, j < k → ok j) ?_ ?_ ?_ ?_⟩
  · exact ⟨same_new hD _, upd_same, fun j hj => absurd hj (Nat.not_lt_zero _)⟩
  · rintro k H' _ ⟨s, _⟩
    exact s.seq hs
  · rintro k x H' hx ⟨s, hd, hk'⟩
    have hk : k < xs.length := (List.getElem?_eq_some_iff.mp hx).1
    have hy : ys[k]? = some ys[k] := List.getElem?_eq_getElem (by omega)
    refine ⟨wipe_one, ?_⟩
    simp only [tYes, if_true]
    refine he k x _ H' _ hx hy s fun hok H'' s' => ⟨_, s' _ _ hd, ?_, ?_, ?_, ?_⟩
    · rw [List.length_take]
      exact Nat.lt_of_le_of_lt (Nat.min_le_left _ _) (size_of (by omega))
    · intro b u z
      rw [upd_ne (ne_of_none z hD)]
      exact s' _ _ (s b u z)
    · rw [upd_same, take_more hy]
    · intro j hj
      rcases Nat.lt_succ_iff_lt_or_eq.mp hj with h | h
      · exact hk' j h
      · rw [h]
        exact hok
  · rintro H' ⟨s, hd, hk'⟩
    rw [← hl, List.take_length] at hd
    exact q hk' D H' s hD hd
section
variable {K : PySem.W.Frag} {CD DM : Addr}
def sp_shown : Sp := fun vs H Q _ => ∃ (p : Addr) (l w : List Nat) (ns : List Int), vs = [.ref p] ∧ due l = some (w, ns) ∧ l.length ≤ 400 ∧ H p = some (.tup (.str (SX.S w) :: ns.map V.int)) ∧ ∀ H', Same H H' → Q (.str (SX.S l)) H'
theorem p_shown (vs : List V) (H : Hp) (Q : VK) (E : XK) (h : sp_shown vs H Q E) : t_shown K E { nx := fun _ H' => Q .non H', rt := Q } (start ["deed", "part"] vs) H := by
  obtain ⟨p, l, w, ns, rfl, hdue, hl, hp, q⟩ := h
  obtain ⟨ts, hcut, hcnt, hok, rfl⟩ := due_some hdue
  have hlen : ∀ x ∈ w :: ts, x.length ≤ 400 := fun x hx => by
    have z := cutB_len l [] x (by rw [hcut]; exact hx)
    rw [List.length_nil] at z
    omega
  have hmany : (w :: ts).length ≤ 401 := by
    have z := cutB_many l []
    rw [hcut] at z
    omega
  rw [List.length_cons] at hmany
  show t_shown K E _ [some (.ref p), none] H
  unfold t_shown
  walk_at "ev"
  refine ⟨⟨_, rfl⟩, lc_tup (ys := (w :: ts).map fun x => V.str (SX.S x)) hp ?_ ?_ (fun j x y H' Q' hx hy s q' => ?_) fun D H' s hD hd => ?_⟩
  · simp only [List.length_cons, List.length_map]
    omega
  · simp only [List.length_cons, List.length_map]
  · cases j with
    | zero =>
      cases hx
      cases hy
      walk_at "ev"
      exact q'
    | succ j =>
      rw [List.getElem?_cons_succ, List.getElem?_map, List.getElem?_map] at hx
      rw [List.map_cons, List.getElem?_cons_succ, List.getElem?_map] at hy
      cases e : ts[j]? with
      | none => rw [e] at hx; cases hx
      | some t =>
        rw [e] at hx hy
        cases hx
        cases hy
        have mt : t ∈ ts := List.mem_of_getElem? e
        have ot := List.all_eq_true.mp hok t mt
        walk_at "ev"
        refine ⟨valN_small ot (hlen t (List.mem_cons_of_mem _ mt)), ?_⟩
        rw [text_back ot]
        exact q'
  · refine ⟨" ", D, (w :: ts).map SX.S, rfl, rfl, .inl (SqL.of (by rw [hd, List.map_map] <;> rfl)), ?_, ?_⟩
    · have z := cutB_sum l []
      rw [hcut, List.length_nil] at z
      rw [List.length_map, List.length_cons, List.map_map]
      have e : ((w :: ts).map ((fun x => x.length) ∘ SX.S)) = (w :: ts).map List.length := List.map_congr_left fun x _ => SX.S_len x
      rw [e]
      have e2 : (" " : Str).length = 1 := by decide +kernel
      rw [e2]
      omega
    · have z := join_cutB l []
      rw [hcut, List.nil_append] at z
      rw [lit4, SX.join_S, z]
      exact q H' s
def sp_read (CD : Addr) : Sp := fun vs H Q E => ∃ l : List Nat, vs = [.str (SX.S l)] ∧ l.length ≤ 400 ∧ (∀ w ns, due l = some (w, ns) → ∀ p H', Same H H' → H' p = some (.tup (.str (SX.S w) :: ns.map V.int)) → Q (.ref p) H') ∧ (due l = none → ∀ H', Same H H' → E (.ref CD) none H')
theorem p_read (M : Many K DM) (vs : List V) (H : Hp) (Q : VK) (E : XK) (h : sp_read CD vs H Q E) : t_read K CD DM (sp_number_of CD) E { nx := fun _ H' => Q .non H', rt := Q } (start ["line", "word", "texts", "numbers", "text"] vs) H := by
  obtain ⟨l, rfl, hl, q1, q2⟩ := h
  obtain ⟨w, ts, hcut⟩ : ∃ w ts, cutB [] l = w :: ts := by
    cases e : cutB [] l with
    | nil => exact absurd e (cutB_ne l [])
    | cons w ts => exact ⟨w, ts, rfl⟩
  have hlen : ∀ x ∈ w :: ts, x.length ≤ 400 := fun x hx => by
    have z := cutB_len l [] x (by rw [hcut]; exact hx)
    rw [List.length_nil] at z
    omega
  have hmany : (w :: ts).length ≤ 401 := by
    have z := cutB_many l []
    rw [hcut] at z
    omega
  rw [List.length_cons] at hmany
  show t_read K CD DM (sp_number_of CD) E _ [some (.str (SX.S l)), none, none, none, none] H
  unfold t_read
  walk_at "ev"
  refine ⟨⟨_, rfl⟩, SX.S l, " ", rfl, rfl, by decide +kernel, by rw [SX.S_len, sizeLine_eq]; omega, fun p hp => ?_⟩
  have s1 := same_new hp (.lst ((Txt.split (SX.S l) " ").map V.str))
  refine ⟨p, .str (SX.S w), ts.map fun x => V.str (SX.S x), rfl, SqL.of (by rw [upd_same, lit4, split_cutB, hcut, List.map_map] <;> rfl), fun D hD => ?_⟩
  have s2 := s1.trans (same_new hD (.lst (ts.map fun x => V.str (SX.S x))))
  generalize hH : upd (upd H p (.lst ((Txt.split (SX.S l) " ").map V.str))) D (.lst (ts.map fun x => V.str (SX.S x))) = H2 at s2
  have hD2 : H2 D = some (.lst (ts.map fun x => V.str (SX.S x))) := by rw [← hH, upd_same]
  clear hH hD s1
  walk_at "ev"
  have none_of : ¬ (cnt (SX.S w) = ts.length ∧ ts.all okN = true) → due l = none := fun z => by
    unfold due
    rw [hcut]
    exact if_neg z
  by_cases hw : cnt (SX.S w) = -1
  · refine ⟨SX.S w, none, rfl, rfl, (M _).1 hw, ?_⟩
    walk_at "ev"
    exact q2 (none_of fun z => by omega) _ s2
  obtain ⟨t, ht⟩ := (M _).2 hw
  refine ⟨SX.S w, _, rfl, rfl, ht, ?_⟩
  show ∃ k, V.bl false = V.bl k ∧ _
  walk_at "ev"
  refine nLen_ap (SqL.of hD2) ?_
  refine ⟨SX.S w, _, .int (cnt (SX.S w)), rfl, rfl, ht, ⟨t, rfl⟩, ?_⟩
  walk_at "ev"
  rw [List.length_map]
  split
  · rename_i hn
    exact q2 (none_of fun z => hn z.1.symm) _ s2
  rename_i hn
  have hn : cnt (SX.S w) = ts.length := by
    by_cases z : cnt (SX.S w) = ts.length
    · exact z
    · exact absurd (fun y => z y.symm) hn
  refine lc_mapE (ok := fun j => ∀ x, ts[j]? = some x → okN x = true) (ys := ts.map fun x => V.int (valN x)) (SqL.of hD2) (by rw [List.length_map]; omega) (by rw [List.length_map, List.length_map]) (fun j x y H' Q' hx hy s q' => ?_) fun hall R H' s hR hd => ?_
  · rw [List.getElem?_map] at hx hy
    cases e : ts[j]? with
    | none => rw [e] at hx; cases hx
    | some x =>
      rw [e] at hx hy
      cases hx
      cases hy
      have mt : x ∈ ts := List.mem_of_getElem? e
      have lx := hlen x (List.mem_cons_of_mem _ mt)
      walk_at "ev"
      refine ⟨x, rfl, by omega, fun ok H'' s' => q' (fun x' z => ?_) H'' s', fun no H'' s' => q2 (none_of fun z => ?_) _ (s2.trans (s.trans s'))⟩
      · rw [e] at z
        cases z
        exact ok
      · rw [List.all_eq_true.mp z.2 x mt] at no
        cases no
  · walk_at "ev"
    refine ⟨R, _, rfl, .inr (SqL.of hd), ?_, fun r hr => ?_⟩
    · rw [List.length_cons, List.length_map, sizeLine_eq]
      omega
    · have hdue : due l = some (w, ts.map valN) := by
        unfold due
        rw [hcut]
        refine if_pos ⟨hn, List.all_eq_true.mpr fun x hx => ?_⟩
        obtain ⟨j, hj, e⟩ := List.mem_iff_getElem.mp hx
        exact hall j (by rw [List.length_map]; exact hj) x (by rw [List.getElem?_eq_getElem hj, e])
      exact q1 w _ hdue r _ (s2.trans (s.trans (same_new hr _))) (by rw [upd_same, List.map_map] <;> rfl)
end
end RB
namespace RB
open PySem PySem.Spec PyProof.Rows L2 LamX NdefX
section
variable {H : Hp} {Q : VK} {l : List Nat} {a : Str}
theorem nLenS_ap : nLenS [.str a] H Q = (a.length ≤ sizeLine ∧ Q (.int a.length) H) := by simp [nLenS]
theorem slS_ap {lo hi : Option Int} : rSlS (.str a) lo hi H Q = (a.length ≤ sizeLine ∧ Q (.str (cutS a lo hi)) H) := by simp [rSlS]
theorem sIx_nat {n d k : Nat} : HT.sIx n d (some (k : Int)) = min k n := by
  show (if (k : Int) < 0 then ((k : Int) + (n : Int)).toNat else min (k : Int).toNat n) = _
  rw [if_neg (by omega), Int.toNat_natCast]
theorem cut_to (k : Nat) : cutS (SX.S l) none (some (k : Int)) = SX.S (l.take k) := by
  refine TL.ext_tl ?_
  show (((SX.S l).cps.toList.drop (HT.sIx (SX.S l).length 0 none)).take (HT.sIx (SX.S l).length (SX.S l).length (some (k : Int)) - HT.sIx (SX.S l).length 0 none)) = l.take k
  rw [sIx_nat, SX.S_len]
  show (l.drop 0).take (min k l.length - 0) = l.take k
  rw [List.drop_zero, Nat.sub_zero]
  rcases Nat.le_total k l.length with h | h
  · rw [Nat.min_eq_left h]
  · rw [Nat.min_eq_right h, List.take_length, List.take_of_length_le h]
theorem cut_from (k : Nat) : cutS (SX.S l) (some (k : Int)) none = SX.S (l.drop k) := by
  refine TL.ext_tl ?_
  show (((SX.S l).cps.toList.drop (HT.sIx (SX.S l).length 0 (some (k : Int)))).take (HT.sIx (SX.S l).length (SX.S l).length none - HT.sIx (SX.S l).length 0 (some (k : Int)))) = l.drop k
  rw [sIx_nat, SX.S_len]
  show (l.drop (min k l.length)).take (l.length - min k l.length) = l.drop k
  rcases Nat.le_total k l.length with h | h
  · rw [Nat.min_eq_left h, List.take_of_length_le (by rw [List.length_drop]; omega)]
  · rw [Nat.min_eq_right h, List.drop_length, List.drop_of_length_le h, List.take_nil]
theorem cut_to1 : cutS (SX.S l) none (some 1) = SX.S (l.take 1) := cut_to 1
theorem cut_from1 : cutS (SX.S l) (some 1) none = SX.S (l.drop 1) := cut_from 1
theorem cat_blank : SX.S l ++ (" " : Str) = SX.S (l ++ [32]) := by rw [lit4, SX.S_cat]
theorem sg_blank {c : Nat} : ([c] = ([32] : List Nat)) = (c = 32) := by simp
theorem cutV_rest {x : V} {xs : List V} : cutV (x :: xs) (some 1) none = xs := by
  show ((x :: xs).drop (HT.sIx (x :: xs).length 0 (some ((1 : Nat) : Int)))).take ((x :: xs).length - HT.sIx (x :: xs).length 0 (some ((1 : Nat) : Int))) = xs
  rw [sIx_nat, List.length_cons, Nat.min_eq_left (by omega)]
  show xs.take (xs.length + 1 - 1) = xs
  rw [Nat.add_sub_cancel, List.take_length]
end
local macro_rules | `(tactic| walk_at "ev") => `(tactic| try simp only [tSeq, tIfS, tTest, tNot, tAnd, tOr, tB, tOp, tUn, tVar, tC, tRet, tAsg, gName, tNext, tCB, tCons, tNil, tDrop, tRaise, tChain, tChain3, tAndV, tOrV, tNotV, tIf, tCall, tFld_ap, tLc_ap, tLcR_ap, tFor_ap, tForR_ap, tForR2_ap, nTry, nTryAs, tCallS, tKnown, tBM, gSub, tSl, tNoPart, tPart, tLst, tTup, wipe,
  List.getElem?_cons_zero, List.getElem?_cons_succ, List.set_cons_zero, List.set_cons_succ, ex_some, ex_bl, ex_int, List.nil_append, List.cons_append, List.append_nil,
  nAdd_ap, nSub_ap, nLt_ap, nLe_ap, nGt_ap, nGe_ap, nMul_ap, nMulW_ap, nDiv_ap, nMod_ap, nPow_ap, nNeg_ap, nMax_ap, nMin_ap, rEq_ap, rNe_ap, nIs_ap, nIsNot_ap, dec_int_non, dec_ref_non, dec_non_non, ref_non, int_non, non_ref, non_int, isi_int_int, isi_int_bool,
  decide_eq_true_eq, Bool.not_eq_true', decide_eq_false_iff_not, decide_true, decide_false, Bool.not_true, Bool.not_false, ite_tt', ite_ff', Bool.false_eq_true, Bool.true_eq_false, not_true_eq_false, not_false_eq_true, if_true, if_false, tM1, nCatS_ap, rEqT_ap, rNeT_ap, nPfx_ap, pfx_fig, is_empty, is_zero, is_minus, is_mzero, is_blank, tLcS_ap, tLcT_ap, tForS_ap, tForT_ap, StX.tStar, nStr_int, nStr_str, SX.S_cat, SX.S_len, nLenS_ap, slS_ap, cut_to1, cut_from1, cat_blank, notSign_ap, sg_blank])
section
variable {K : PySem.W.Frag} {CD : Addr}
def sp_l_count : Sp := fun vs H Q _ => ∃ z : Str, vs = [.str z] ∧ ∀ H', Same H H' → Q (.int (cnt z)) H'
theorem p_l_count (vs : List V) (H : Hp) (Q : VK) (E : XK) (h : sp_l_count vs H Q E) : t_l_count K E { nx := fun _ H' => Q .non H', rt := Q } (start ["_law_word"] vs) H := by
  obtain ⟨z, rfl, q⟩ := h
  show t_l_count K E _ [some (.str z)] H
  unfold t_l_count
  walk_at "ev"
  unfold cnt at q
  have tail : ∀ (H1 : Hp), Same H H1 → ¬ (z = "add" ∨ z = "fill") → (5 ≤ sizeLine ∧ ∀ p, H1 p = none → rIn K false (.str z) (.ref p) (upd H1 p (.lst [.str "total", .str "least", .str "place", .str "first", .str "list"])) fun x H2 => ∃ k, x = .bl k ∧ if k = true then Q (.int 2) H2 else if z = "back" then Q (.int 0) H2 else Q (.int (-1)) H2) := fun H1 s1 hn => by
    refine ⟨by rw [sizeLine_eq]; decide, fun p hp => ?_⟩
    have s := s1.trans (same_new hp (.lst [.str "total", .str "least", .str "place", .str "first", .str "list"]))
    refine ⟨p, _, rfl, .inl (SqL.of upd_same), rfl, rfl, ?_⟩
    have e : inV (.str z) [.str "total", .str "least", .str "place", .str "first", .str "list"] = decide (z ∈ (["total", "least", "place", "first", "list"] : List Str)) := by
      show (("total" : Str) == z || (("least" : Str) == z || (("place" : Str) == z || (("first" : Str) == z || (("list" : Str) == z || false))))) = _
      have b : ∀ u : Str, (u == z) = decide (z = u) := fun u => by
        by_cases h : z = u
        · subst h
          simp
        · rw [decide_eq_false h]
          exact beq_eq_false_iff_ne.mpr fun y => h y.symm
      simp only [b, List.mem_cons, List.not_mem_nil, or_false, Bool.decide_or, Bool.or_false]
    rw [if_neg (by decide), e]
    walk_at "ev"
    have q' := q _ s
    rw [if_neg hn] at q'
    split
    · rename_i hm
      rw [if_pos hm] at q'
      exact q'
    · rename_i hm
      rw [if_neg hm] at q'
      split
      · rename_i hb
        rw [if_pos hb] at q'
        exact q'
      · rename_i hb
        rw [if_neg hb] at q'
        exact q'
  split
  · rename_i h1
    rw [if_pos (.inl h1)] at q
    exact q H (.refl H)
  · rename_i h1
    split
    · rename_i h2
      rw [if_pos (.inr h2)] at q
      exact q H (.refl H)
    · rename_i h2
      exact tail H (.refl H) fun y => y.elim h1 h2
theorem for_digits {H : Hp} {Q : VK} {R : L2.St → Hp → Prop} {l m : List Nat} (no : m.all dig = false → Q .non H) (yes : m.all dig = true → nIntS [.str (SX.S l)] H Q) :
    nForS 2 (tIfS (tTest (tOp nNotSign (tVar 2) (tC (V.str (Str.ofString "0123456789"))))) (tRet (tC V.non)) tNext) (V.str (SX.S m))
      { nx := tRet (tCB nIntS (tCons (tVar 0) tNil)) { nx := R, rt := Q }, rt := Q } [some (V.str (SX.S l)), some (V.str (SX.S m)), none] H := by
  have sz : (SX.S m).cps.size = m.length := by simp [SX.S]
  refine ⟨SX.S m, rfl, for_it (walk_str (z := SX.S m)) (fun k σ' H' => H' = H ∧ (∃ o, σ' = [some (V.str (SX.S l)), some (V.str (SX.S m)), o]) ∧ ∀ c ∈ m.take k, dig c = true) ⟨rfl, ⟨_, rfl⟩, fun c hc => by simp at hc⟩ (fun _ _ _ _ _ => trivial) ?_ ?_⟩
  · rintro k x σ' H' H2 hk ⟨rfl, ⟨o, rfl⟩, hd⟩ ⟨rfl, c, hc, rfl⟩
    have hc' : m[k]? = some c := by simpa [SX.S] using hc
    show tIfS _ _ _ _ [some (V.str (SX.S l)), some (V.str (SX.S m)), some (V.str (SX.S [c]))] H2
    walk_at "ev"
    split
    · rename_i h
      refine no ?_
      cases e : m.all dig with
      | false => rfl
      | true =>
        rw [List.all_eq_true.mp e c (List.mem_of_getElem? hc')] at h
        cases h
    · rename_i h
      refine ⟨trivial, ⟨_, rfl⟩, fun d hd' => ?_⟩
      rw [take_more hc'] at hd'
      rcases List.mem_append.mp hd' with y | y
      · exact hd d y
      · rw [List.mem_singleton.mp y]
        simpa using h
  · rintro σ' H' ⟨rfl, ⟨o, rfl⟩, hd⟩
    rw [sz, List.take_length] at hd
    walk_at "ev"
    exact yes (List.all_eq_true.mpr hd)
def sp_l_number_of : Sp := fun vs H Q _ => ∃ l : List Nat, vs = [.str (SX.S l)] ∧ l.length ≤ 600 ∧ Q (if okN l = true then .int (valN l) else .non) H
theorem p_l_number_of (vs : List V) (H : Hp) (Q : VK) (E : XK) (h : sp_l_number_of vs H Q E) : t_l_number_of K E { nx := fun _ H' => Q .non H', rt := Q } (start ["_law_word", "_law_figures", "_law_sign"] vs) H := by
  obtain ⟨l, rfl, hl, q⟩ := h
  have hf := fig_len l
  have hok := okN_other l
  have hme : (l.take 1 = [45] → l.drop 1 = fig l) ∧ (l.take 1 ≠ [45] → l = fig l) := by
    unfold fig
    cases l with
    | nil => simp
    | cons c r => by_cases hc : c = 45 <;> simp [hc]
  have big : ∀ k : Nat, k ≤ 600 → k ≤ sizeLine := fun k hk => by
    rw [sizeLine_eq]
    omega
  have bad : okN l = false → Q .non H := fun e => by
    rw [e] at q
    exact q
  have good : okN l = true → nIntS [.str (SX.S l)] H Q := fun e => by
    rw [if_pos e] at q
    exact ⟨SX.S l, valN l, rfl, int_read e (by omega), by rw [SX.S_len]; omega, q⟩
  clear q
  show t_l_number_of K E _ [some (.str (SX.S l)), none, none] H
  unfold t_l_number_of
  walk_at "ev"
  obtain ⟨m, em⟩ : ∃ m, m = fig l := ⟨_, rfl⟩
  rw [← em] at hf hok hme
  clear em
  refine ⟨big _ hl, ?_⟩
  split
  · rename_i hc
    refine ⟨big _ hl, ?_⟩
    rw [hme.1 hc]
    split
    · rename_i h0
      exact bad (by rw [hok, h0] <;> rfl)
    rename_i h0
    have hne : m.isEmpty = false := List.isEmpty_eq_false_iff.mpr h0
    split
    · rename_i h1
      exact bad (by rw [hok, decide_eq_true h1]; simp)
    rename_i h1
    refine ⟨big _ (by omega), ?_⟩
    split
    · rename_i h2
      have h2' : 1 < m.length := by omega
      obtain ⟨c, r, e⟩ : ∃ c r, m = c :: r := by
        cases m with
        | nil => exact absurd rfl h0
        | cons c r => exact ⟨c, r, rfl⟩
      refine ixS_ap (j := 0) (by omega) (by rw [e] <;> rfl) ?_
      walk_at "ev"
      split
      · rename_i h3
        cases h3
        exact bad (by rw [hok, decide_eq_true h2', e]; simp)
      · rename_i h3
        have h3' : decide (m.head? = some 48) = false := decide_eq_false fun z => h3 (by rw [e] at z; cases z; rfl)
        exact for_digits (fun y => bad (by rw [hok, y]; simp)) fun y => good (by rw [hok, y, hne, decide_eq_false h1, h3']; simp)
    · rename_i h2
      have h2' : ¬ 1 < m.length := by omega
      exact for_digits (fun y => bad (by rw [hok, y]; simp)) fun y => good (by rw [hok, y, hne, decide_eq_false h1, decide_eq_false h2']; simp)
  · rename_i hc
    obtain rfl : m = l := (hme.2 hc).symm
    split
    · rename_i h0
      exact bad (by rw [hok, h0] <;> rfl)
    rename_i h0
    have hne : m.isEmpty = false := List.isEmpty_eq_false_iff.mpr h0
    split
    · rename_i h1
      exact bad (by rw [hok, decide_eq_true h1]; simp)
    rename_i h1
    refine ⟨big _ (by omega), ?_⟩
    split
    · rename_i h2
      have h2' : 1 < m.length := by omega
      obtain ⟨c, r, e⟩ : ∃ c r, m = c :: r := by
        cases m with
        | nil => exact absurd rfl h0
        | cons c r => exact ⟨c, r, rfl⟩
      refine ixS_ap (j := 0) (by omega) (by rw [e] <;> rfl) ?_
      walk_at "ev"
      split
      · rename_i h3
        cases h3
        exact bad (by rw [hok, decide_eq_true h2', e]; simp)
      · rename_i h3
        have h3' : decide (m.head? = some 48) = false := decide_eq_false fun z => h3 (by rw [e] at z; cases z; rfl)
        exact for_digits (fun y => bad (by rw [hok, y]; simp)) fun y => good (by rw [hok, y, hne, decide_eq_false h1, h3']; simp)
    · rename_i h2
      have h2' : ¬ 1 < m.length := by omega
      exact for_digits (fun y => bad (by rw [hok, y]; simp)) fun y => good (by rw [hok, y, hne, decide_eq_false h1, decide_eq_false h2']; simp)
end
end RB
namespace RB
open PySem PySem.Spec PyProof.Rows L2 LamX NdefX
local macro_rules | `(tactic| walk_at "ev") => `(tactic| try simp only [tSeq, tIfS, tTest, tNot, tAnd, tOr, tB, tOp, tUn, tVar, tC, tRet, tAsg, gName, tNext, tCB, tCons, tNil, tDrop, tRaise, tChain, tChain3, tAndV, tOrV, tNotV, tIf, tCall, tFld_ap, tLc_ap, tLcR_ap, tFor_ap, tForR_ap, tForR2_ap, nTry, nTryAs, tCallS, tKnown, tBM, gSub, tSl, tNoPart, tPart, tLst, tTup, wipe,
  List.getElem?_cons_zero, List.getElem?_cons_succ, List.set_cons_zero, List.set_cons_succ, ex_some, ex_bl, ex_int, List.nil_append, List.cons_append, List.append_nil,
  nAdd_ap, nSub_ap, nLt_ap, nLe_ap, nGt_ap, nGe_ap, nMul_ap, nMulW_ap, nDiv_ap, nMod_ap, nPow_ap, nNeg_ap, nMax_ap, nMin_ap, rEq_ap, rNe_ap, nIs_ap, nIsNot_ap, dec_int_non, dec_ref_non, dec_non_non, ref_non, int_non, non_ref, non_int, isi_int_int, isi_int_bool,
  decide_eq_true_eq, Bool.not_eq_true', decide_eq_false_iff_not, decide_true, decide_false, Bool.not_true, Bool.not_false, ite_tt', ite_ff', Bool.false_eq_true, Bool.true_eq_false, not_true_eq_false, not_false_eq_true, if_true, if_false, tM1, nCatS_ap, rEqT_ap, rNeT_ap, nPfx_ap, pfx_fig, is_empty, is_zero, is_minus, is_mzero, is_blank, tLcS_ap, tLcT_ap, tForS_ap, tForT_ap, StX.tStar, nStr_int, nStr_str, SX.S_cat, SX.S_len, nLenS_ap, slS_ap, cut_to1, cut_from1, cat_blank, notSign_ap, sg_blank])
section
variable {K : PySem.W.Frag} {CD : Addr}
theorem cat_one (l : List Nat) (c : Nat) : SX.S l ++ SX.S [c] = SX.S (l ++ [c]) := SX.S_cat l [c]
def sp_l_deed_of : Sp := fun vs H Q _ => ∃ l : List Nat, vs = [.str (SX.S l)] ∧ l.length ≤ 400 ∧ (due l = none → ∀ H', Same H H' → Q .non H') ∧ (∀ w ns, due l = some (w, ns) → ∀ p H', Same H H' → H' p = some (.tup (.str (SX.S w) :: ns.map V.int)) → Q (.ref p) H')
theorem p_l_deed_of (vs : List V) (H : Hp) (Q : VK) (E : XK) (h : sp_l_deed_of vs H Q E) : t_l_deed_of K sp_l_count sp_l_number_of E { nx := fun _ H' => Q .non H', rt := Q } (start ["_law_line", "_law_parts", "_law_part", "_law_sign", "_law_deed", "_law_word"] vs) H := by
  obtain ⟨l, rfl, hl, q1, q2⟩ := h
  show t_l_deed_of K sp_l_count sp_l_number_of E _ [some (.str (SX.S l)), none, none, none, none, none] H
  unfold t_l_deed_of
  walk_at "ev"
  refine ⟨Nat.zero_le _, fun pp np => ?_⟩
  walk_at "ev"
  refine ⟨by rw [show (Str.ofString " ").length = 1 by decide +kernel, sizeLine_eq]; omega, ?_⟩
  have sz : (SX.S (l ++ [32])).cps.size = l.length + 1 := by simp [SX.S]
  refine ⟨SX.S (l ++ [32]), rfl, for_it (walk_str (z := SX.S (l ++ [32]))) (fun k σ' H' => Same H H' ∧ H' pp = some (.lst ((((l ++ [32]).take k).foldl stepB ([], [])).1.map fun x => V.str (SX.S x))) ∧
    ∃ o, σ' = [some (V.str (SX.S l)), some (V.ref pp), some (V.str (SX.S (((l ++ [32]).take k).foldl stepB ([], [])).2)), o, none, none]) ⟨same_new np _, upd_same, none, by rw [lit0] <;> rfl⟩ (fun _ _ _ _ _ => trivial) ?_ ?_⟩
  · rintro k x σ' H' H2 hk ⟨s, hp, o, rfl⟩ ⟨rfl, c, hc, rfl⟩
    rw [sz] at hk
    have hc' : (l ++ [32])[k]? = some c := by simpa [SX.S] using hc
    have fl := fold_len ((l ++ [32]).take k) ([], []) 0 (by simp) (by simp) (by simp)
    have lt : ((l ++ [32]).take k).length ≤ 401 := by
      rw [List.length_take, List.length_append, List.length_singleton]
      omega
    have nx : ((l ++ [32]).take (k + 1)).foldl stepB ([], []) = stepB (((l ++ [32]).take k).foldl stepB ([], [])) c := by
      rw [take_more hc', List.foldl_append] <;> rfl
    rw [nx]
    generalize ((l ++ [32]).take k).foldl stepB ([], []) = X at hp fl
    obtain ⟨ps, acc⟩ := X
    have fl1 : ps.length ≤ 0 + ((l ++ [32]).take k).length := fl.1
    have fl2 : acc.length ≤ 0 + ((l ++ [32]).take k).length := fl.2
    clear fl
    show tIfS _ _ _ _ [some (V.str (SX.S l)), some (V.ref pp), some (V.str (SX.S acc)), some (V.str (SX.S [c])), none, none] H2
    walk_at "ev"
    split
    · rename_i h
      have e : stepB (ps, acc) c = (ps ++ [acc], []) := if_pos h
      rw [e]
      refine ⟨ty_lst hp, app_ap hp (by rw [List.length_map]; show ps.length ≤ 16000000; omega) ?_⟩
      walk_at "ev"
      refine ⟨fun b u z => ?_, ?_, _, by rw [lit0]⟩
      · rw [upd_ne (ne_of_none z np)]
        exact s _ _ z
      · rw [upd_same, List.map_append] <;> rfl
    · rename_i h
      have e : stepB (ps, acc) c = (ps, acc ++ [c]) := if_neg h
      rw [e]
      refine ⟨by rw [sizeLine_eq, List.length_singleton]; omega, s, hp, _, rfl⟩
  rintro σ' H' ⟨s, hp, o, rfl⟩
  rw [sz, show l.length + 1 = (l ++ [32]).length by simp, List.take_length, fold_cutB, List.nil_append] at hp
  rw [sz, show l.length + 1 = (l ++ [32]).length by simp, List.take_length, fold_cutB]
  obtain ⟨w, ts, hcut⟩ : ∃ w ts, cutB [] l = w :: ts := by
    cases e : cutB [] l with
    | nil => exact absurd e (cutB_ne l [])
    | cons w ts => exact ⟨w, ts, rfl⟩
  have hlen : ∀ x ∈ w :: ts, x.length ≤ 400 := fun x hx => by
    have z := cutB_len l [] x (by rw [hcut]; exact hx)
    rw [List.length_nil] at z
    omega
  have hmany : (w :: ts).length ≤ 401 := by
    have z := cutB_many l []
    rw [hcut] at z
    omega
  rw [List.length_cons] at hmany
  have none_of : ¬ (cnt (SX.S w) = ts.length ∧ ts.all okN = true) → due l = none := fun z => by
    unfold due
    rw [hcut]
    exact if_neg z
  rw [hcut] at hp
  show tSeq _ _ _ [some (V.str (SX.S l)), some (V.ref pp), some (V.str (SX.S [])), o, none, none] H'
  walk_at "ev"
  refine ixL_ap (j := 0) (SqL.of hp) rfl ⟨SX.S w, rfl, fun H1 s1 => ?_⟩
  have hp1 := s1 _ _ hp
  refine nLen_ap (SqL.of hp1) ?_
  walk_at "ev"
  rw [List.length_map, List.length_cons]
  have s1' := s.trans s1
  split
  · rename_i hn
    exact q1 (none_of fun z => hn (by rw [z.1]; omega)) _ s1'
  rename_i hn
  have hn : cnt (SX.S w) = ts.length := by
    by_cases z : cnt (SX.S w) = ts.length
    · exact z
    · exact absurd (fun y => z (by omega)) hn
  walk_at "ev"
  refine ixL_ap (j := 0) (SqL.of hp1) rfl ?_
  walk_at "ev"
  refine ⟨by show 1 ≤ sizeLine; decide, fun dd nd => ?_⟩
  have s2 := s1'.trans (same_new nd (.lst [.str (SX.S w)]))
  have nd0 : H dd = none := by
    cases e : H dd with
    | none => rfl
    | some u => rw [s1' _ _ e] at nd; cases nd
  have hpd : pp ≠ dd := fun z => by rw [← z, hp1] at nd; cases nd
  walk_at "ev"
  refine slL_ap (SqL.of (by rw [upd_ne hpd]; exact hp1)) fun r nr => ?_
  rw [List.map_cons, cutV_rest]
  have nr1 : H1 r = none := by
    cases e : H1 r with
    | none => rfl
    | some u => rw [same_new nd _ _ _ e] at nr; cases nr
  have hrd : r ≠ dd := fun z => by rw [z, upd_same] at nr; cases nr
  refine ⟨r, rfl, ⟨_, SqL.of upd_same⟩, for_list (K := K) (a := r) (xs := ts.map fun x => V.str (SX.S x)) (fun k σ' H' => Same H H' ∧ H' r = some (.lst (ts.map fun x => V.str (SX.S x))) ∧ H' dd = some (.lst (V.str (SX.S w) :: (ts.take k).map fun x => V.int (valN x))) ∧
    (∀ x ∈ ts.take k, okN x = true) ∧ ∃ o', σ' = [some (V.str (SX.S l)), some (V.ref pp), some (V.str (SX.S [])), o, some (V.ref dd), o'])
    ⟨s2.trans (same_new nr _), upd_same, by rw [upd_ne hrd.symm, upd_same] <;> rfl, fun x hx => by simp at hx, _, rfl⟩ (fun k σ' H' _ hh => SqL.of hh.2.1) ?_ ?_⟩
  · rintro k x σ' H2 hx ⟨sH, hr, hd, hall, o', rfl⟩
    rw [List.getElem?_map] at hx
    cases e : ts[k]? with
    | none => rw [e] at hx; cases hx
    | some t =>
      rw [e] at hx
      cases hx
      have mt : t ∈ ts := List.mem_of_getElem? e
      have lt := hlen t (List.mem_cons_of_mem _ mt)
      show tSeq _ _ _ [some (V.str (SX.S l)), some (V.ref pp), some (V.str (SX.S [])), o, some (V.ref dd), some (V.str (SX.S t))] H2
      walk_at "ev"
      refine ⟨t, rfl, by omega, ?_⟩
      cases ok : okN t with
      | false =>
        walk_at "ev"
        exact q1 (none_of fun z => by rw [List.all_eq_true.mp z.2 t mt] at ok; cases ok) _ sH
      | true =>
        walk_at "ev"
        refine ⟨ty_lst hd, t, rfl, by omega, ?_⟩
        rw [ok, if_pos rfl]
        refine app_ap hd ?_ ?_
        · rw [List.length_cons, List.length_map, List.length_take]
          omega
        · refine ⟨fun b u z => ?_, ?_, ?_, ?_, _, rfl⟩
          · rw [upd_ne (ne_of_none z nd0)]
            exact sH _ _ z
          · rw [upd_ne hrd]
            exact hr
          · rw [upd_same, take_more e, List.map_append] <;> rfl
          · intro y hy
            rw [take_more e] at hy
            rcases List.mem_append.mp hy with hy | hy
            · exact hall y hy
            · rw [List.mem_singleton.mp hy]
              exact ok
  · rintro σ' H2 ⟨sH, hr, hd, hall, o', rfl⟩
    rw [List.length_map, List.take_length] at hd hall
    walk_at "ev"
    refine ⟨dd, _, rfl, .inl ⟨SqL.of hd, fun p hp' => ?_⟩⟩
    exact q2 w (ts.map valN) (by
      unfold due
      rw [hcut]
      exact if_pos ⟨hn, List.all_eq_true.mpr hall⟩) p _ (sH.trans (same_new hp' _)) (by rw [upd_same, List.map_map] <;> rfl)
end
end RB
namespace RB
open PySem PySem.Spec PyProof.Rows L2 LamX NdefX
local macro_rules | `(tactic| walk_at "ev") => `(tactic| try simp only [tSeq, tIfS, tTest, tNot, tAnd, tOr, tB, tOp, tUn, tVar, tC, tRet, tAsg, gName, tNext, tCB, tCons, tNil, tDrop, tRaise, tChain, tChain3, tAndV, tOrV, tNotV, tIf, tCall, tFld_ap, tLc_ap, tLcR_ap, tFor_ap, tForR_ap, tForR2_ap, nTry, nTryAs, tCallS, tKnown, tBM, gSub, tSl, tNoPart, tPart, tLst, tTup, wipe,
  List.getElem?_cons_zero, List.getElem?_cons_succ, List.set_cons_zero, List.set_cons_succ, ex_some, ex_bl, ex_int, List.nil_append, List.cons_append, List.append_nil,
  nAdd_ap, nSub_ap, nLt_ap, nLe_ap, nGt_ap, nGe_ap, nMul_ap, nMulW_ap, nDiv_ap, nMod_ap, nPow_ap, nNeg_ap, nMax_ap, nMin_ap, rEq_ap, rNe_ap, nIs_ap, nIsNot_ap, dec_int_non, dec_ref_non, dec_non_non, ref_non, int_non, non_ref, non_int, isi_int_int, isi_int_bool,
  decide_eq_true_eq, Bool.not_eq_true', decide_eq_false_iff_not, decide_true, decide_false, Bool.not_true, Bool.not_false, ite_tt', ite_ff', Bool.false_eq_true, Bool.true_eq_false, not_true_eq_false, not_false_eq_true, if_true, if_false, tM1, nCatS_ap, rEqT_ap, rNeT_ap, nPfx_ap, pfx_fig, is_empty, is_zero, is_minus, is_mzero, is_blank, tLcS_ap, tLcT_ap, tForS_ap, tForT_ap, StX.tStar, nStr_int, nStr_str, SX.S_cat, SX.S_len, nLenS_ap, slS_ap, cut_to1, cut_from1, cat_blank, notSign_ap, sg_blank])
section
variable {K : PySem.W.Frag} {CD : Addr}
theorem word_ix {L : List Str} {N : Nat} {H : Hp} {Q : VK} {p : Addr} {i : Int} (h : H p = some (.lst (L.map V.str))) (hL : ∀ x ∈ L, x.length ≤ N) (h0 : 0 ≤ i) (h1 : i < L.length) (q : ∀ m : List Nat, m.length ≤ N → Q (.str (SX.S m)) H) : rIxL K (.ref p) (.int i) H Q := by
  obtain ⟨j, rfl⟩ := Int.eq_ofNat_of_zero_le h0
  have hj : j < L.length := by omega
  refine ixL_ap (j := j) (v := .str L[j]) (SqL.of h) (by rw [List.getElem?_map, List.getElem?_eq_getElem hj] <;> rfl) ?_
  have z := q L[j].cps.toList (by
    have := hL L[j] (List.getElem_mem hj)
    rw [TL.len_tl] at this
    exact this)
  rw [SX.S_tl] at z
  exact z
theorem lit_ix {z : Str} {H : Hp} {Q : VK} {i : Int} (hz : z.length ≤ 1000) (h0 : 0 ≤ i) (h1 : i < z.length) (q : ∀ c, Q (.str (SX.S [c])) H) : rIxS (.str z) (.int i) H Q := by
  obtain ⟨j, rfl⟩ := Int.eq_ofNat_of_zero_le h0
  have hj : j < (TL.tl z).length := by
    have := TL.len_tl z
    omega
  exact ⟨z, j, (TL.tl z)[j], rfl, rfl, by rw [sizeLine_eq]; omega, atI_nat (List.getElem?_eq_getElem hj), q _⟩
theorem str_small {i : Int} (h0 : 0 ≤ i) (h1 : i < 10 ^ 59) : i.natAbs.log2 < 1920 ∧ ∃ l, Str.ofString (toString i) = SX.S l ∧ l.length ≤ 59 := by
  obtain ⟨n, rfl⟩ := Int.eq_ofNat_of_zero_le h0
  have hn : n < 10 ^ 59 := by
    have : ((10 : Int) ^ 59) = ((10 ^ 59 : Nat) : Int) := by decide +kernel
    omega
  refine ⟨?_, TL.numL n, toS_nat n, TL.numL_len (by decide) hn⟩
  rw [Int.natAbs_natCast]
  by_cases z : n = 0
  · rw [z]
    decide
  · exact Nat.lt_of_lt_of_le ((Nat.log2_lt z).mpr (Nat.lt_of_lt_of_le hn (show 10 ^ 59 ≤ 2 ^ 200 by decide +kernel))) (by decide)
theorem str_tiny {i : Int} (h0 : -20 ≤ i) (h1 : i ≤ 20) : i.natAbs.log2 < 1920 ∧ ∃ l, Str.ofString (toString i) = SX.S l ∧ l.length ≤ 60 := by
  have p59 : (20 : Int) < 10 ^ 59 := by decide +kernel
  by_cases h : 0 ≤ i
  · obtain ⟨a, l, e, hl⟩ := str_small h (by omega)
    exact ⟨a, l, e, by omega⟩
  · obtain ⟨n, hn⟩ := Int.eq_ofNat_of_zero_le (show 0 ≤ -i by omega)
    obtain rfl : i = -(n : Int) := by omega
    obtain ⟨a, l, e, hl⟩ := str_small (i := (n : Int)) (by omega) (by omega)
    refine ⟨by rw [Int.natAbs_neg]; exact a, 45 :: TL.numL n, toS_neg (by omega), ?_⟩
    rw [toS_nat] at e
    have := SX.S_inj e
    rw [List.length_cons, this]
    omega
theorem emod_two {c m : Int} (h : 0 < m) : 0 ≤ c % m ∧ c % m < m := ⟨Int.emod_nonneg _ (by omega), Int.emod_lt_of_pos _ h⟩
def sp_l_signs : Sp := fun vs H Q _ => vs = [] ∧ ∀ z : Str, z.length = 96 → Q (.str z) H
theorem p_l_signs (vs : List V) (H : Hp) (Q : VK) (E : XK) (h : sp_l_signs vs H Q E) : t_l_signs E { nx := fun _ H' => Q .non H', rt := Q } (start ["_law_some"] vs) H := by
  obtain ⟨rfl, q⟩ := h
  show t_l_signs E _ [none] H
  unfold t_l_signs
  walk_at "ev"
  exact ⟨by show _ ≤ 16777216; decide +kernel, q _ (by decide +kernel)⟩
def words : List Str := ["add", "fill", "total", "least", "place", "first", "list", "back", "", "Add", "adds", "ADD", "sum", "min", "undo", "length", "max", "mean", "sub", "set", "put", "count", "made", "even", "added", "filled", "listed", "clear", "average", "reverse", "replace"]
theorem lst_cat {H0 Hx : Hp} {a : Addr} {xs L : List V} {Q : VK} {n : Nat} (s : Same H0 Hx) (ha : Hx a = some (.lst xs)) (hn : n ≤ sizeLine) (hl : xs.length + L.length ≤ sizeLine) (q : ∀ p H', Same H0 H' → H' p = some (.lst (xs ++ L)) → Q (.ref p) H') :
    n ≤ sizeLine ∧ ∀ p, Hx p = none → rCat (.ref a) (.ref p) (upd Hx p (.lst L)) Q :=
  ⟨hn, fun p np => ⟨a, p, xs, L, rfl, rfl, same_new np _ _ _ ha, upd_same, hl, fun r nr => q r _ (s.trans ((same_new np _).trans (same_new nr _))) upd_same⟩⟩
theorem words_len : ∀ x ∈ words, x.length ≤ 10 := by decide +kernel
def sp_l_word_by : Sp := fun vs H Q _ => ∃ c : Int, vs = [.int c] ∧ ∀ (m : List Nat) H', m.length ≤ 10 → Same H H' → Q (.str (SX.S m)) H'
theorem p_l_word_by (vs : List V) (H : Hp) (Q : VK) (E : XK) (h : sp_l_word_by vs H Q E) : t_l_word_by K E { nx := fun _ H' => Q .non H', rt := Q } (start ["_law_cell", "_law_words", "_law_some", "_law_k"] vs) H := by
  obtain ⟨c, rfl, q⟩ := h
  show t_l_word_by K E _ [some (.int c), none, none, none] H
  unfold t_l_word_by
  walk_at "ev"
  refine ⟨by show 8 ≤ sizeLine; decide, fun p1 n1 => ?_⟩
  refine lst_cat (same_new n1 _) upd_same (by show 13 ≤ sizeLine; decide) (by show 8 + 13 ≤ sizeLine; decide) fun p3 H3 s3 h3 => ?_
  walk_at "ev"
  refine lst_cat s3 h3 (by show 10 ≤ sizeLine; decide) (by show 21 + 10 ≤ sizeLine; decide) fun p5 H5 s5 h5 => ?_
  have h5 : H5 p5 = some (.lst (words.map V.str)) := h5
  have q := fun m hm => q m H5 hm s5
  clear s5
  have w31 : words.length = 31 := rfl
  walk_at "ev"
  refine ⟨by decide, ?_⟩
  split
  · have z := emod_two (c := c / 4) (m := 8) (by decide)
    exact ⟨⟨by decide, by decide⟩, by decide, word_ix h5 words_len z.1 (by rw [w31]; omega) q⟩
  refine ⟨by decide, ?_⟩
  split
  · have z := emod_two (c := c / 8) (m := 23) (by decide)
    exact ⟨⟨by decide, by decide⟩, by decide, word_ix h5 words_len (by omega) (by rw [w31]; omega) q⟩
  refine ⟨⟨by decide, by decide⟩, by decide, ?_⟩
  have z := emod_two (c := c / 8) (m := 10) (by decide)
  refine ⟨_, rfl, by omega, by omega, for_range (lo := 0) (n := (1 + c / 8 % 10).toNat) (fun k σ' H' => H' = H5 ∧ ∃ (m : List Nat) (o : Option V), m.length ≤ k ∧ σ' = [some (.int c), some (.ref p5), some (.str (SX.S m)), o]) ⟨rfl, [], none, Nat.le_refl _, by rw [lit0]⟩ ?_ ?_⟩
  · rintro k σ' H' hk ⟨rfl, m, o, hm, rfl⟩
    rw [show (0 : Int) + (k : Int) = (k : Int) by omega]
    show tAsg _ _ _ [some (.int c), some (.ref p5), some (.str (SX.S m)), some (.int k)] H'
    walk_at "ev"
    refine ⟨⟨by decide, by decide⟩, ⟨by decide, by decide⟩, .inl ⟨by omega, by omega⟩, by decide, ?_⟩
    have y := emod_two (c := c / 48 + (k : Int) * (c / 7)) (m := 26) (by decide)
    refine lit_ix (by decide +kernel) y.1 (by rw [show (Str.ofString "abcdefghijklmnopqrstuvwxyz").length = 26 by decide +kernel]; exact y.2) fun d => ?_
    rw [nCatS_ap, cat_one]
    refine ⟨by rw [SX.S_len, SX.S_len, List.length_singleton, sizeLine_eq]; omega, rfl, _, _, ?_, rfl⟩
    rw [List.length_append, List.length_singleton]
    omega
  · rintro σ' H' ⟨rfl, m, o, hm, rfl⟩
    walk_at "ev"
    exact q m (by omega)
theorem cat_minus (l : List Nat) : (Str.ofString "-") ++ SX.S l = SX.S (45 :: l) := by
  rw [lit2, SX.S_cat] <;> rfl
def sp_l_figures_by : Sp := fun vs H Q _ => ∃ c m : Int, vs = [.int c, .int m] ∧ 1000 ≤ m ∧ m ≤ 10 ^ 59 ∧ ∀ (l : List Nat) H', l.length ≤ 63 → Same H H' → Q (.str (SX.S l)) H'
theorem p_l_figures_by (vs : List V) (H : Hp) (Q : VK) (E : XK) (h : sp_l_figures_by vs H Q E) : t_l_figures_by K E { nx := fun _ H' => Q .non H', rt := Q } (start ["_law_cell", "_law_most", "_law_tail", "_law_odd"] vs) H := by
  obtain ⟨c, m, rfl, m0, m1, q⟩ := h
  show t_l_figures_by K E _ [some (.int c), some (.int m), none, none] H
  have C : ∀ i j : Int, 0 < j → j < 1073741824 → CDiv i j := fun i j h1 h2 => ⟨h1, h2⟩
  unfold t_l_figures_by
  walk_at "ev"
  refine ⟨by decide, ?_⟩
  have z8 := emod_two (c := c / 8) (m := m) (by omega)
  obtain ⟨a8, l8, e8, n8⟩ := str_small z8.1 (by omega)
  split
  · refine ⟨C _ _ (by decide) (by decide), by omega, a8, ?_⟩
    rw [e8]
    exact q _ _ (by omega) (.refl H)
  refine ⟨by decide, ?_⟩
  split
  · refine ⟨C _ _ (by decide) (by decide), by omega, a8, ?_⟩
    rw [e8]
    refine ⟨by rw [show (Str.ofString "-").length = 1 by decide +kernel, SX.S_len, sizeLine_eq]; omega, ?_⟩
    rw [cat_minus]
    exact q _ _ (by rw [List.length_cons]; omega) (.refl H)
  refine ⟨by decide, ?_⟩
  split
  · have hm : 0 < m / 1000 := by omega
    have hm2 : m / 1000 ≤ m := by omega
    have z48 := emod_two (c := c / 48) (m := m / 1000) hm
    obtain ⟨a9, l9, e9, n9⟩ := str_small z48.1 (by omega)
    refine ⟨C _ _ (by decide) (by decide), C _ _ (by decide) (by decide), hm, a9, ?_⟩
    rw [e9]
    refine ⟨by show 4 ≤ sizeLine; decide, fun p1 n1 => ?_⟩
    have y4 := emod_two (c := c / 8) (m := 4) (by decide)
    refine ⟨C _ _ (by decide) (by decide), by decide, ?_⟩
    refine word_ix (L := ["", "", "7", SX.S l9]) (N := 59) upd_same (fun x hx => ?_) y4.1 y4.2 fun t ht => ?_
    · simp only [List.mem_cons, List.not_mem_nil, or_false] at hx
      rcases hx with rfl | rfl | rfl | rfl
      · decide +kernel
      · decide +kernel
      · decide +kernel
      · rw [SX.S_len]
        exact n9
    walk_at "ev"
    refine ⟨by show 6 ≤ sizeLine; decide, fun p2 n2 => ?_⟩
    have y6 := emod_two (c := c / 8) (m := 6) (by decide)
    refine ⟨C _ _ (by decide) (by decide), by decide, ?_⟩
    refine word_ix (L := ["-0", "0", "00", "-00", "0", "-0"]) (N := 3) upd_same (by decide +kernel) y6.1 y6.2 fun u hu => ?_
    walk_at "ev"
    refine ⟨by rw [sizeLine_eq]; omega, ?_⟩
    exact q _ _ (by rw [List.length_append]; omega) ((same_new n1 _).trans (same_new n2 _))
  refine ⟨by decide, ?_⟩
  split
  · refine ⟨by show 10 ≤ sizeLine; decide, fun p1 n1 => ?_⟩
    refine lst_cat (same_new n1 _) upd_same (by show 8 ≤ sizeLine; decide) (by show 10 + 8 ≤ sizeLine; decide) fun p2 H2 s2 h2 => ?_
    walk_at "ev"
    have y := emod_two (c := c / 8) (m := 18) (by decide)
    refine ⟨C _ _ (by decide) (by decide), by decide, ?_⟩
    exact word_ix (L := ["", "-", "-0", "+1", "01", "-01", "00", "1.5", "--1", "1-", "a", "1a", "1e3", "0x1", "1_0", "None", "-+2", "1,0"]) (N := 4) h2 (by decide +kernel) y.1 y.2 fun u hu => q _ _ (by omega) s2
  · have y := emod_two (c := c / 8) (m := 41) (by decide)
    obtain ⟨a1, l1, e1, n1⟩ := str_tiny (i := c / 8 % 41 - 20) (by omega) (by omega)
    refine ⟨C _ _ (by decide) (by decide), by decide, a1, ?_⟩
    rw [e1]
    exact q _ _ (by omega) (.refl H)
end
end RB
namespace RB
open PySem PySem.Spec PyProof.Rows L2 LamX NdefX
local macro_rules | `(tactic| walk_at "ev") => `(tactic| try simp only [tSeq, tIfS, tTest, tNot, tAnd, tOr, tB, tOp, tUn, tVar, tC, tRet, tAsg, gName, tNext, tCB, tCons, tNil, tDrop, tRaise, tChain, tChain3, tAndV, tOrV, tNotV, tIf, tCall, tFld_ap, tLc_ap, tLcR_ap, tFor_ap, tForR_ap, tForR2_ap, nTry, nTryAs, tCallS, tKnown, tBM, gSub, tSl, tNoPart, tPart, tLst, tTup, wipe,
  List.getElem?_cons_zero, List.getElem?_cons_succ, List.set_cons_zero, List.set_cons_succ, ex_some, ex_bl, ex_int, List.nil_append, List.cons_append, List.append_nil,
  nAdd_ap, nSub_ap, nLt_ap, nLe_ap, nGt_ap, nGe_ap, nMul_ap, nMulW_ap, nDiv_ap, nMod_ap, nPow_ap, nNeg_ap, nMax_ap, nMin_ap, rEq_ap, rNe_ap, nIs_ap, nIsNot_ap, dec_int_non, dec_ref_non, dec_non_non, ref_non, int_non, non_ref, non_int, isi_int_int, isi_int_bool,
  decide_eq_true_eq, Bool.not_eq_true', decide_eq_false_iff_not, decide_true, decide_false, Bool.not_true, Bool.not_false, ite_tt', ite_ff', Bool.false_eq_true, Bool.true_eq_false, not_true_eq_false, not_false_eq_true, if_true, if_false, tM1, nCatS_ap, rEqT_ap, rNeT_ap, nPfx_ap, pfx_fig, is_empty, is_zero, is_minus, is_mzero, is_blank, tLcS_ap, tLcT_ap, tForS_ap, tForT_ap, StX.tStar, nStr_int, nStr_str, SX.S_cat, SX.S_len, nLenS_ap, slS_ap, cut_to1, cut_from1, cat_blank, notSign_ap, sg_blank])
section
variable {K : PySem.W.Frag} {CD CB CT CO CZ CN : Addr}
theorem isE_ref {D X a : Addr} {b : Bool} {H : Hp} {Q : VK} (h : PySem.W.kitOne K (.ref D) (.type "ValueError") = some b) (q : Q (.bl b) H) : rIsE K D a [.ref a, .ty "ValueError"] H Q := ⟨.ty "ValueError", .type "ValueError", b, rfl, fun u hu => hu, h, q⟩
theorem kit4 {D : Addr} (h1 : PySem.W.kitOne K (.ref D) (.ref CN) = some false) (h2 : PySem.W.kitOne K (.ref D) (.ref CZ) = some false) (h3 : PySem.W.kitOne K (.ref D) (.ref CO) = some false) (h4 : PySem.W.kitOne K (.ref D) (.ref CT) = some false) :
    PySem.W.kitAny K (.ref D) [.ref CN, .ref CZ, .ref CO, .ref CT] = some false :=
  kitAny_cons h1 (fun _ => kitAny_cons h2 (fun _ => kitAny_cons h3 (fun _ => kitAny_cons h4 (fun _ => kitAny_nil) fun z => by cases z) fun z => by cases z) fun z => by cases z) fun z => by cases z
def sp_l_refused_by_any (CD : Addr) : Sp := fun vs H Q _ => ∃ l : List Nat, vs = [.str (SX.S l)] ∧ l.length ≤ 400 ∧ due l = none ∧ ∀ H', Q (.bl true) H'
theorem p_l_refused_by_any (m : PySem.W.exmOne K (.ref CD) (.ref CB) = some true) (k1 : PySem.W.kitOne K (.ref CD) (.ref CN) = some false) (k2 : PySem.W.kitOne K (.ref CD) (.ref CZ) = some false) (k3 : PySem.W.kitOne K (.ref CD) (.ref CO) = some false)
    (k4 : PySem.W.kitOne K (.ref CD) (.ref CT) = some false) (kV : PySem.W.kitOne K (.ref CD) (.type "ValueError") = some true) (vs : List V) (H : Hp) (Q : VK) (E : XK) (h : sp_l_refused_by_any CD vs H Q E) :
    t_l_refused_by_any K CB CT CO CZ CN CD (sp_read CD) E { nx := fun _ H' => Q .non H', rt := Q } (start ["_law_line", "e"] vs) H := by
  obtain ⟨l, rfl, hl, hn, q⟩ := h
  show t_l_refused_by_any K CB CT CO CZ CN CD (sp_read CD) E _ [some (.str (SX.S l)), none] H
  unfold t_l_refused_by_any
  walk_at "ev"
  refine ⟨l, rfl, hl, fun w ns e => by (rw [hn] at e; cases e), fun _ H' s => ?_⟩
  refine ⟨true, m, fun _ a na => ?_, fun z => by cases z⟩
  refine ⟨rfl, rfl, ?_⟩
  walk_at "ev"
  refine ⟨by show 4 ≤ sizeLine; decide, fun tp ntp => ⟨tp, _, _, false, rfl, upd_same, .cons (.own _) (.cons (.own _) (.cons (.own _) (.cons (.own _) .nil))), kit4 k1 k2 k3 k4, ?_⟩⟩
  walk_at "ev"
  refine isE_ref (X := a) kV ?_
  walk_at "ev"
  exact q _
theorem isi_str {x : Str} {H : Hp} {Q : VK} (q : Q (.bl true) H) : rIsi K [.str x, .ty "str"] H Q := ⟨_, _, _, _, true, rfl, .ty _, .base (.str x), kit_ty (by decide +kernel), q⟩
theorem isi_tup {p : Addr} {xs : List V} {H : Hp} {Q : VK} (h : H p = some (.tup xs)) (q : Q (.bl true) H) : rIsi K [.ref p, .ty "tuple"] H Q := ⟨_, _, _, _, true, rfl, .ty _, .base (.tup h), kit_ty (by decide +kernel), q⟩
theorem nLenT_ap {H : Hp} {Q : VK} {p : Addr} {ys : List V} (h : SqT K H p ys) (q : Q (.int ys.length) H) : nLen K [.ref p] H Q := ⟨p, ys, rfl, .inr h, q⟩
theorem cnt_word {z : Str} (h : cnt z ≠ -1) : PyData.strOk z = true := by
  unfold cnt at h
  split at h
  · rename_i e
    rcases e with rfl | rfl <;> decide +kernel
  · split at h
    · rename_i e
      simp only [List.mem_cons, List.not_mem_nil, or_false] at e
      rcases e with rfl | rfl | rfl | rfl | rfl <;> decide +kernel
    · split at h
      · rename_i e
        subst e
        decide +kernel
      · exact absurd rfl h
theorem cnt_le (z : Str) : cnt z ≤ 3 := by
  unfold cnt
  repeat' split
  all_goals decide
theorem due_facts {l w : List Nat} {ns : List Int} (h : due l = some (w, ns)) : PyData.strOk (SX.S w) = true ∧ ns.length ≤ 3 := by
  obtain ⟨ts, e1, e2, e3, rfl⟩ := due_some h
  refine ⟨cnt_word (by omega), ?_⟩
  have := cnt_le (SX.S w)
  rw [List.length_map]
  omega
theorem eqD_deed {H : Hp} {Q : VK} {a b : Addr} {s : Str} {ns : List Int} (hs : PyData.strOk s = true) (hn : ns.length ≤ 3) (h1 : H a = some (.tup (.str s :: ns.map V.int))) (h2 : H b = some (.tup (.str s :: ns.map V.int))) (q : Q (.bl true) H) : rEqD K (.ref a) (.ref b) H Q := by
  have sh : SeqAt.shaped (.tuple (.str s :: ns.map PyData.int)) = true := by
    match ns, hn with
    | [], _ => simp [hs, SeqAt.shaped, PyData.canLay0, PyData.canLayAll0, PyData.depth, PyData.depthAll]
    | [x], _ => simp [hs, SeqAt.shaped, PyData.canLay0, PyData.canLayAll0, PyData.depth, PyData.depthAll]
    | [x, y], _ => simp [hs, SeqAt.shaped, PyData.canLay0, PyData.canLayAll0, PyData.depth, PyData.depthAll]
    | [x, y, z], _ => simp [hs, SeqAt.shaped, PyData.canLay0, PyData.canLayAll0, PyData.depth, PyData.depthAll]
    | _ :: _ :: _ :: _ :: _, h => exact absurd h (by simp)
  refine ⟨.tuple (.str s :: ns.map PyData.int), .tuple (.str s :: ns.map PyData.int), .tup (SqT.of h1) (.cons (.str s) (dp_ints ns)), .tup (SqT.of h2) (.cons (.str s) (dp_ints ns)), sh, sh, ?_⟩
  have e : PyData.eqv (.tuple (.str s :: ns.map PyData.int)) (.tuple (.str s :: ns.map PyData.int)) = true := by
    match ns, hn with
    | [], _ => simp [PyData.eqv, PyData.eqvAll]
    | [x], _ => simp [PyData.eqv, PyData.eqvAll]
    | [x, y], _ => simp [PyData.eqv, PyData.eqvAll]
    | [x, y, z], _ => simp [PyData.eqv, PyData.eqvAll]
    | _ :: _ :: _ :: _ :: _, h => exact absurd h (by simp)
  rw [e]
  exact q
theorem k09_12 (mD : PySem.W.exmOne K (.ref CD) (.ref CD) = some true) {H : Hp} {Q : VK} {E : XK} {nx : L2.St → Hp → Prop} {l : List Nat} {o0 o1 o2 o3 o5 o6 o7 o8 o9 o10 o11 : Option V} (hl : l.length ≤ 400) (q : ∀ H', Q (.bl true) H') :
    t_law_k09_12 K CD (sp_l_cell_at K) sp_l_word_by sp_l_count sp_l_figures_by sp_l_signs sp_l_deed_of (sp_read CD) (sp_l_refused_by_any CD) sp_l_whole sp_shown E { nx := nx, rt := Q } [o0, o1, o2, o3, some (.str (SX.S l)), o5, o6, o7, o8, o9, o10, o11] H := by
  unfold t_law_k09_12
  walk_at "ev"
  refine ⟨l, rfl, hl, fun hn H1 s1 => ?_, fun w ns hd p H1 s1 hp => ?_⟩
  · unfold t_law_k09_13 t_law_k09_14 t_law_k09_15
    walk_at "ev"
    refine ⟨l, rfl, hl, fun w ns e => by (rw [hn] at e; cases e), fun _ H2 s2 => ?_⟩
    refine ⟨true, mD, fun _ a na => ?_, fun z => by cases z⟩
    walk_at "ev"
    unfold t_law_k09_16
    walk_at "ev"
    exact ⟨l, rfl, hl, hn, q⟩
  · obtain ⟨hs, h3⟩ := due_facts hd
    unfold t_law_k09_13 t_law_k09_14 t_law_k09_15
    walk_at "ev"
    refine ⟨l, rfl, hl, fun w' ns' e r H2 s2 hr => ?_, fun e => by (rw [hd] at e; cases e)⟩
    rw [hd] at e
    cases e
    have hp2 := s2 _ _ hp
    unfold t_law_k09_16
    walk_at "ev"
    unfold t_law_k09_17
    walk_at "ev"
    refine isi_tup hr ?_
    walk_at "ev"
    refine nLenT_ap (SqT.of hr) ?_
    refine nLenT_ap (SqT.of hp2) ?_
    walk_at "ev"
    refine ixT_ap (j := 0) (SqT.of hr) rfl ?_
    refine isi_str ?_
    walk_at "ev"
    unfold t_law_k09_18
    walk_at "ev"
    refine ⟨r, _, rfl, SqT.of hr, fun y => ?_, fun y p2 n2 => ?_⟩
    · exfalso
      have y1 := y.1
      rw [show HT.sIx (V.str (SX.S w) :: ns.map V.int).length 0 (some 1) = min 1 (V.str (SX.S w) :: ns.map V.int).length from sIx_nat (k := 1), List.length_cons] at y1
      omega
    rw [cutV_rest]
    have s3 := same_new n2 (.tup (ns.map V.int))
    refine ⟨p2, rfl, ⟨_, SqT.of upd_same⟩, for_it (walk_tup (K := K) (a := p2) (xs := ns.map V.int)) (fun _ σ' H' => Same H2 H' ∧ H' p2 = some (.tup (ns.map V.int)) ∧ ∃ o, σ' = [o0, o1, o2, o3, some (.str (SX.S l)), o5, o6, some (.ref p), some (.ref r), some (.bl false), o, o11])
      ⟨s3, upd_same, _, rfl⟩ (fun _ _ _ _ y => SqT.of y.2.1) ?_ ?_⟩
    · rintro k x σ' H' H3 hk ⟨sH, h2, o, rfl⟩ ⟨rfl, hx⟩
      rw [List.getElem?_map] at hx
      cases e : ns[k]? with
      | none => rw [e] at hx; cases hx
      | some i =>
        rw [e] at hx
        cases hx
        show tIfS _ _ _ _ [o0, o1, o2, o3, some (.str (SX.S l)), o5, o6, some (.ref p), some (.ref r), some (.bl false), some (.int i), o11] H3
        walk_at "ev"
        rw [l_whole_ap]
        walk_at "ev"
        exact ⟨sH, h2, _, rfl⟩
    · rintro σ' H3 ⟨sH, h2, o, rfl⟩
      unfold t_law_k09_19
      walk_at "ev"
      refine ⟨p, l, w, ns, rfl, hd, hl, sH _ _ hp2, fun H4 s4 => ?_⟩
      unfold t_law_k09_20
      walk_at "ev"
      refine eqD_deed hs h3 (s4 _ _ (sH _ _ hr)) (s4 _ _ (sH _ _ hp2)) ?_
      walk_at "ev"
      refine isi_str ?_
      walk_at "ev"
      exact q _
end
end RB
namespace RB
open PySem PySem.Spec PyProof.Rows L2 LamX NdefX
theorem cut_next {l : List Nat} {n : Nat} : cutS (SX.S l) (some ((n : Int) + 1)) none = SX.S (l.drop (n + 1)) := cut_from (n + 1)
local macro_rules | `(tactic| walk_at "ev") => `(tactic| try simp only [tSeq, tIfS, tTest, tNot, tAnd, tOr, tB, tOp, tUn, tVar, tC, tRet, tAsg, gName, tNext, tCB, tCons, tNil, tDrop, tRaise, tChain, tChain3, tAndV, tOrV, tNotV, tIf, tCall, tFld_ap, tLc_ap, tLcR_ap, tFor_ap, tForR_ap, tForR2_ap, nTry, nTryAs, tCallS, tKnown, tBM, gSub, tSl, tNoPart, tPart, tLst, tTup, wipe,
  List.getElem?_cons_zero, List.getElem?_cons_succ, List.set_cons_zero, List.set_cons_succ, ex_some, ex_bl, ex_int, List.nil_append, List.cons_append, List.append_nil,
  nAdd_ap, nSub_ap, nLt_ap, nLe_ap, nGt_ap, nGe_ap, nMul_ap, nMulW_ap, nDiv_ap, nMod_ap, nPow_ap, nNeg_ap, nMax_ap, nMin_ap, rEq_ap, rNe_ap, nIs_ap, nIsNot_ap, dec_int_non, dec_ref_non, dec_non_non, ref_non, int_non, non_ref, non_int, isi_int_int, isi_int_bool,
  decide_eq_true_eq, Bool.not_eq_true', decide_eq_false_iff_not, decide_true, decide_false, Bool.not_true, Bool.not_false, ite_tt', ite_ff', Bool.false_eq_true, Bool.true_eq_false, not_true_eq_false, not_false_eq_true, if_true, if_false, tM1, nCatS_ap, rEqT_ap, rNeT_ap, nPfx_ap, pfx_fig, is_empty, is_zero, is_minus, is_mzero, is_blank, tLcS_ap, tLcT_ap, tForS_ap, tForT_ap, StX.tStar, nStr_int, nStr_str, SX.S_cat, SX.S_len, nLenS_ap, slS_ap, cut_to1, cut_from1, cat_blank, cut_to, cut_from, cut_next, notSign_ap, sg_blank])
section
variable {K : PySem.W.Frag} {CD CB CT CO CZ CN : Addr}
theorem tk_len (l : List Nat) (n : Nat) : (l.take n).length + (l.drop n).length = l.length := by
  rw [List.length_take, List.length_drop]
  omega
theorem dr_len (l : List Nat) (n : Nat) : (l.drop (n + 1)).length ≤ (l.drop n).length := by
  rw [List.length_drop, List.length_drop]
  omega
theorem fits {k : Nat} (h : k ≤ 1000) : k ≤ sizeLine := by
  rw [sizeLine_eq]
  omega
section
variable (mD : PySem.W.exmOne K (.ref CD) (.ref CD) = some true) {H : Hp} {Q : VK} {E : XK} {nx : L2.St → Hp → Prop} {ns : List Int} {a : Addr} {l : List Nat} {n : Nat} {o1 o2 o3 o5 o7 o8 o9 o10 o11 : Option V} (hS : SqL K H a (ns.map V.int)) (q : ∀ H', Q (.bl true) H')
include mD hS q
theorem k09_11 (hl : l.length ≤ 399) : t_law_k09_11 K CD (sp_l_cell_at K) sp_l_word_by sp_l_count sp_l_figures_by sp_l_signs sp_l_deed_of (sp_read CD) (sp_l_refused_by_any CD) sp_l_whole sp_shown E { nx := nx, rt := Q } [some (.ref a), o1, o2, o3, some (.str (SX.S l)), o5, some (.int n), o7, o8, o9, o10, o11] H := by
  have t := tk_len l n
  have d := dr_len l n
  unfold t_law_k09_11
  walk_at "ev"
  refine ⟨a, ns, 6, rfl, hS, ?_⟩
  walk_at "ev"
  refine ⟨by decide, ?_⟩
  split
  · refine ⟨fits (by omega), fits (by omega), fits (by omega), ?_⟩
    exact k09_12 mD (by rw [List.length_append]; omega) q
  · exact k09_12 mD (by omega) q
theorem k09_10 (hl : l.length ≤ 398) : t_law_k09_10 K CD (sp_l_cell_at K) sp_l_word_by sp_l_count sp_l_figures_by sp_l_signs sp_l_deed_of (sp_read CD) (sp_l_refused_by_any CD) sp_l_whole sp_shown E { nx := nx, rt := Q } [some (.ref a), o1, o2, o3, some (.str (SX.S l)), o5, some (.int n), o7, o8, o9, o10, o11] H := by
  have t := tk_len l n
  have d := dr_len l n
  unfold t_law_k09_10
  walk_at "ev"
  refine ⟨a, ns, 6, rfl, hS, ?_⟩
  walk_at "ev"
  refine ⟨by decide, ?_⟩
  split
  · refine ⟨fits (by omega), rfl, fun z hz => ?_⟩
    refine ⟨a, ns, 8, rfl, hS, ?_⟩
    walk_at "ev"
    refine ⟨by decide, ?_⟩
    have y := emod_two (c := cell ns 8) (m := 96) (by decide)
    refine lit_ix (by omega) y.1 (by rw [hz]; exact y.2) fun c => ?_
    walk_at "ev"
    refine ⟨fits (by rw [List.length_singleton]; omega), fits (by omega), fits (by rw [List.length_append, List.length_singleton]; omega), ?_⟩
    exact k09_11 mD hS q (by rw [List.length_append, List.length_append, List.length_singleton]; omega)
  · exact k09_11 mD hS q (by omega)
theorem k09_9 (hl : l.length ≤ 397) : t_law_k09_9 K CD (sp_l_cell_at K) sp_l_word_by sp_l_count sp_l_figures_by sp_l_signs sp_l_deed_of (sp_read CD) (sp_l_refused_by_any CD) sp_l_whole sp_shown E { nx := nx, rt := Q } [some (.ref a), o1, o2, o3, some (.str (SX.S l)), o5, some (.int n), o7, o8, o9, o10, o11] H := by
  have t := tk_len l n
  unfold t_law_k09_9
  walk_at "ev"
  refine ⟨a, ns, 6, rfl, hS, ?_⟩
  walk_at "ev"
  refine ⟨by decide, ?_⟩
  split
  · refine ⟨fits (by omega), rfl, fun z hz => ?_⟩
    refine ⟨a, ns, 8, rfl, hS, ?_⟩
    walk_at "ev"
    refine ⟨by decide, ?_⟩
    have y := emod_two (c := cell ns 8) (m := 96) (by decide)
    refine lit_ix (by omega) y.1 (by rw [hz]; exact y.2) fun c => ?_
    walk_at "ev"
    refine ⟨fits (by rw [List.length_singleton]; omega), fits (by omega), fits (by rw [List.length_append, List.length_singleton]; omega), ?_⟩
    exact k09_10 mD hS q (by rw [List.length_append, List.length_append, List.length_singleton]; omega)
  · exact k09_10 mD hS q (by omega)
theorem k09_8 (hl : l.length ≤ 396) : t_law_k09_8 K CD (sp_l_cell_at K) sp_l_word_by sp_l_count sp_l_figures_by sp_l_signs sp_l_deed_of (sp_read CD) (sp_l_refused_by_any CD) sp_l_whole sp_shown E { nx := nx, rt := Q } [some (.ref a), o1, o2, o3, some (.str (SX.S l)), o5, some (.int n), o7, o8, o9, o10, o11] H := by
  have t := tk_len l n
  have b1 : (Str.ofString " ").length = 1 := by decide +kernel
  unfold t_law_k09_8
  walk_at "ev"
  refine ⟨a, ns, 6, rfl, hS, ?_⟩
  walk_at "ev"
  refine ⟨by decide, ?_⟩
  split
  · refine ⟨fits (by omega), fits (by rw [b1]; omega), fits (by omega), fits (by rw [List.length_append, List.length_singleton]; omega), ?_⟩
    exact k09_9 mD hS q (by rw [List.length_append, List.length_append, List.length_singleton]; omega)
  · exact k09_9 mD hS q (by omega)
theorem k09_7 {o6 : Option V} (hl : l.length ≤ 396) : t_law_k09_7 K CD (sp_l_cell_at K) sp_l_word_by sp_l_count sp_l_figures_by sp_l_signs sp_l_deed_of (sp_read CD) (sp_l_refused_by_any CD) sp_l_whole sp_shown E { nx := nx, rt := Q } [some (.ref a), o1, o2, o3, some (.str (SX.S l)), o5, o6, o7, o8, o9, o10, o11] H := by
  unfold t_law_k09_7
  walk_at "ev"
  refine ⟨a, ns, 7, rfl, hS, ?_⟩
  walk_at "ev"
  refine ⟨fits (by omega), by omega, ?_⟩
  have y := emod_two (c := cell ns 7) (m := (l.length : Int) + 1) (by omega)
  obtain ⟨n, hn⟩ := Int.eq_ofNat_of_zero_le y.1
  rw [hn]
  exact k09_8 mD hS q hl
theorem k09_5 {m many : Int} {o4 o6 : Option V} (hl : l.length ≤ 10) (m0 : 1000 ≤ m) (m1 : m ≤ 10 ^ 59) (h0 : 0 ≤ many) (h4 : many ≤ 4) : t_law_k09_5 K CD (sp_l_cell_at K) sp_l_word_by sp_l_count sp_l_figures_by sp_l_signs sp_l_deed_of (sp_read CD) (sp_l_refused_by_any CD) sp_l_whole sp_shown E { nx := nx, rt := Q } [some (.ref a), some (.str (SX.S l)), some (.int many), some (.int m), o4, o5, o6, o7, o8, o9, o10, o11] H := by
  have b1 : (Str.ofString " ").length = 1 := by decide +kernel
  unfold t_law_k09_5
  walk_at "ev"
  unfold t_law_k09_6
  walk_at "ev"
  refine ⟨many, rfl, by omega, by omega, for_range (lo := 0) (n := many.toNat) (fun k σ' H' => Same H H' ∧ k ≤ 4 ∧ ∃ (u : List Nat) (o : Option V), u.length ≤ 10 + 64 * k ∧ σ' = [some (.ref a), some (.str (SX.S l)), some (.int many), some (.int m), some (.str (SX.S u)), o, o6, o7, o8, o9, o10, o11])
    ⟨.refl H, by omega, l, _, by omega, rfl⟩ ?_ ?_⟩
  · rintro k σ' H' hk ⟨s, hk4, u, o, hu, rfl⟩
    rw [show (0 : Int) + (k : Int) = (k : Int) by omega]
    show tAsg _ _ _ [some (.ref a), some (.str (SX.S l)), some (.int many), some (.int m), some (.str (SX.S u)), some (.int k), o6, o7, o8, o9, o10, o11] H'
    walk_at "ev"
    refine ⟨fits (by rw [b1]; omega), a, ns, 2 + k, by simp, s.seq hS, ?_⟩
    refine ⟨_, _, rfl, m0, m1, fun f H2 hf s2 => ?_⟩
    walk_at "ev"
    refine ⟨fits (by rw [List.length_append, List.length_singleton]; omega), s.trans s2, by omega, _, _, ?_, rfl⟩
    rw [List.length_append, List.length_append, List.length_singleton]
    omega
  · rintro σ' H' ⟨s, hk4, u, o, hu, rfl⟩
    exact k09_7 mD (s.seq hS) q (by omega)
end
theorem p_law_k09 (mD : PySem.W.exmOne K (.ref CD) (.ref CD) = some true) (vs : List V) (H : Hp) (Q : VK) (E : XK) (h : sp_law K vs H Q E) :
    t_law_k09 K CD (sp_l_cell_at K) sp_l_word_by sp_l_count sp_l_figures_by sp_l_signs sp_l_deed_of (sp_read CD) (sp_l_refused_by_any CD) sp_l_whole sp_shown E { nx := fun _ H' => Q .non H', rt := Q } (start ["_law_script", "_law_word", "_law_many", "_law_most", "_law_line", "_law_k", "_law_at", "_law_due", "_law_found", "_law_refused", "_law_number", "_law_written"] vs) H := by
  obtain ⟨a, ns, rfl, hS, hlen, q⟩ := h
  show t_law_k09 K CD (sp_l_cell_at K) sp_l_word_by sp_l_count sp_l_figures_by sp_l_signs sp_l_deed_of (sp_read CD) (sp_l_refused_by_any CD) sp_l_whole sp_shown E _ [some (.ref a), none, none, none, none, none, none, none, none, none, none, none] H
  have c59 : CPow 10 59 := ⟨by decide, by decide, by decide⟩
  have c29 : CPow 10 29 := ⟨by decide, by decide, by decide⟩
  have g1 : (1000 : Int) ≤ 10 ^ 59 := by decide +kernel
  have g2 : (1000 : Int) ≤ 10 ^ 29 := by decide +kernel
  have g3 : (10 : Int) ^ 29 ≤ 10 ^ 59 := by decide +kernel
  have from3 : ∀ (H1 : Hp) (l : List Nat) (many : Int), Same H H1 → l.length ≤ 10 → 0 ≤ many → many ≤ 4 → t_law_k09_3 K CD (sp_l_cell_at K) sp_l_word_by sp_l_count sp_l_figures_by sp_l_signs sp_l_deed_of (sp_read CD) (sp_l_refused_by_any CD) sp_l_whole sp_shown E { nx := fun _ H' => Q .non H', rt := Q } [some (.ref a), some (.str (SX.S l)), some (.int many), none, none, none, none, none, none, none, none, none] H1 := fun H1 l many s hl h0 h4 => by
    unfold t_law_k09_3
    walk_at "ev"
    refine ⟨c59, ?_⟩
    unfold t_law_k09_4
    walk_at "ev"
    refine ⟨a, ns, 6, rfl, s.seq hS, ?_⟩
    walk_at "ev"
    refine ⟨by decide, ?_⟩
    split
    · refine ⟨c29, ?_⟩
      exact k09_5 mD (s.seq hS) q hl g2 g3 h0 h4
    · exact k09_5 mD (s.seq hS) q hl g1 (Int.le_refl _) h0 h4
  unfold t_law_k09
  walk_at "ev"
  refine ⟨a, ns, 0, rfl, hS, ?_⟩
  refine ⟨_, rfl, fun l H1 hl s1 => ?_⟩
  unfold t_law_k09_1
  walk_at "ev"
  refine ⟨SX.S l, rfl, fun H2 s2 => ?_⟩
  walk_at "ev"
  have hc := cnt_le (SX.S l)
  unfold t_law_k09_2
  walk_at "ev"
  refine ⟨a, ns, 1, rfl, (s1.trans s2).seq hS, ?_⟩
  walk_at "ev"
  refine ⟨by decide, ?_⟩
  split
  · refine ⟨a, ns, 1, rfl, (s1.trans s2).seq hS, ?_⟩
    walk_at "ev"
    have y := emod_two (c := cell ns 1 / 2) (m := 5) (by decide)
    exact ⟨⟨by decide, by decide⟩, by decide, from3 _ _ _ (s1.trans s2) hl y.1 (by omega)⟩
  · exact from3 _ _ _ (s1.trans s2) hl (by omega) (by omega)
end
end RB
namespace RB
open PySem PySem.Spec PyProof.Rows L2 LamX NdefX
def Ent (e : DictEntry) (x : Str) (i : Int) : Prop := ∃ t u, e.key = .str x t ∧ e.val = .int i u
def Ents : List DictEntry → List (Str × Int) → Prop
  | [], [] => True
  | e :: l, (x, i) :: m => Ent e x i ∧ Ents l m
  | _, _ => False
theorem ents_ref : ∀ {l : List DictEntry} {m : List (Str × Int)}, Ents l m → l.any (·.refKey) = false
  | [], [], _ => rfl
  | e :: l, (x, i) :: m, h => by
    obtain ⟨⟨t, u, h1, h2⟩, h⟩ := h
    rw [List.any_cons, ents_ref h, Bool.or_false]
    unfold DictEntry.refKey
    rw [h1] <;> rfl
  | [], _ :: _, h => h.elim
  | _ :: _, [], h => h.elim
theorem ents_find (z : Str) : ∀ {l : List DictEntry} {m : List (Str × Int)}, Ents l m → (m.find? (fun p => p.1 == z) = none → l.find? (fun e => e.key.isStr z) = none) ∧ ∀ x i, m.find? (fun p => p.1 == z) = some (x, i) → ∃ e u, l.find? (fun e => e.key.isStr z) = some e ∧ e.val = .int i u
  | [], [], _ => ⟨fun _ => rfl, fun _ _ h => by cases h⟩
  | e :: l, (x, i) :: m, h => by
    obtain ⟨⟨t, u, h1, h2⟩, h⟩ := h
    have ih := ents_find z h
    have k : e.key.isStr z = (x == z) := by rw [h1] <;> rfl
    rw [List.find?_cons, List.find?_cons, k]
    show ((match (x == z) with | true => some (x, i) | false => m.find? (fun p => p.1 == z)) = none → _) ∧ ∀ x' i', (match (x == z) with | true => some (x, i) | false => m.find? (fun p => p.1 == z)) = some (x', i') → _
    cases hx : x == z with
    | true =>
      refine ⟨fun y => (by cases y), fun x' i' y => ?_⟩
      cases y
      exact ⟨e, u, rfl, h2⟩
    | false => exact ih
  | [], _ :: _, h => h.elim
  | _ :: _, [], h => h.elim
def many8 : List (Str × Int) := [("add", 3), ("fill", 3), ("total", 2), ("least", 2), ("place", 2), ("first", 2), ("list", 2), ("back", 0)]
theorem cnt_find (z : Str) : (many8.find? (fun p => p.1 == z) = none ∧ cnt z = -1) ∨ ∃ x, many8.find? (fun p => p.1 == z) = some (x, cnt z) ∧ cnt z ≠ -1 := by
  by_cases h1 : z = "add"
  · subst h1; exact .inr ⟨"add", by decide +kernel, by decide +kernel⟩
  by_cases h2 : z = "fill"
  · subst h2; exact .inr ⟨"fill", by decide +kernel, by decide +kernel⟩
  by_cases h3 : z = "total"
  · subst h3; exact .inr ⟨"total", by decide +kernel, by decide +kernel⟩
  by_cases h4 : z = "least"
  · subst h4; exact .inr ⟨"least", by decide +kernel, by decide +kernel⟩
  by_cases h5 : z = "place"
  · subst h5; exact .inr ⟨"place", by decide +kernel, by decide +kernel⟩
  by_cases h6 : z = "first"
  · subst h6; exact .inr ⟨"first", by decide +kernel, by decide +kernel⟩
  by_cases h7 : z = "list"
  · subst h7; exact .inr ⟨"list", by decide +kernel, by decide +kernel⟩
  by_cases h8 : z = "back"
  · subst h8; exact .inr ⟨"back", by decide +kernel, by decide +kernel⟩
  refine .inl ⟨List.find?_eq_none.mpr fun p hp y => ?_, ?_⟩
  · have e : p.1 = z := beq_iff_eq.mp y
    unfold many8 at hp
    simp only [List.mem_cons, List.not_mem_nil, or_false] at hp
    rcases hp with rfl | rfl | rfl | rfl | rfl | rfl | rfl | rfl
    · exact h1 e.symm
    · exact h2 e.symm
    · exact h3 e.symm
    · exact h4 e.symm
    · exact h5 e.symm
    · exact h6 e.symm
    · exact h7 e.symm
    · exact h8 e.symm
  · unfold cnt
    rw [if_neg (fun y => y.elim h1 h2), if_neg (fun y => ?_), if_neg h8]
    simp only [List.mem_cons, List.not_mem_nil, or_false] at y
    rcases y with y | y | y | y | y
    · exact h3 y
    · exact h4 y
    · exact h5 y
    · exact h6 y
    · exact h7 y
theorem Many.mk' {K : PySem.W.Frag} {D : Addr} {es : Array DictEntry} {n : Nat} (l : K.lookup D = some ⟨.type "dict", none, .dict es n, #[]⟩) (h : Ents es.toList many8) : Many K D := by
  intro z
  have f := ents_find z h
  have r := ents_ref h
  have go : PySem.W.nsIn K D z = (match es.toList.find? (fun e => e.key.isStr z) with | some e => some (some e.val) | none => if es.toList.any (·.refKey) then none else some none) := by
    unfold PySem.W.nsIn
    rw [l] <;> rfl
  rw [go]
  rcases cnt_find z with ⟨e, c⟩ | ⟨x, e, c⟩
  · refine ⟨fun _ => ?_, fun y => absurd c y⟩
    rw [f.1 e, r] <;> rfl
  · refine ⟨fun y => absurd y c, fun _ => ?_⟩
    obtain ⟨d, u, e1, e2⟩ := f.2 x _ e
    refine ⟨u, ?_⟩
    rw [e1]
    show some (some d.val) = _
    rw [e2]
end RB
namespace RB
open PySem PySem.Spec PyProof.Rows L2 LamX NdefX
def top (i : Nat) : Stmt := PySem.Challenge.pw_rangebook_k09_lines_read_and_written.main.body.getD i (.Pass ⟨0, 0, 0, 0⟩)
abbrev st_shown : Stmt := top 10
abbrev st_read : Stmt := top 11
abbrev st_number_of : Stmt := top 12
abbrev st_is_number : Stmt := top 13
abbrev st_l_whole : Stmt := top 15
abbrev st_l_cell_at : Stmt := top 16
abbrev st_l_word_by : Stmt := top 17
abbrev st_l_count : Stmt := top 18
abbrev st_l_figures_by : Stmt := top 19
abbrev st_l_signs : Stmt := top 20
abbrev st_l_number_of : Stmt := top 21
abbrev st_l_deed_of : Stmt := top 22
abbrev st_l_refused_by_any : Stmt := top 23
abbrev st_law_k09 : Stmt := top 24
theorem sc_shown : FnScope ["deed", "part"] ["deed"] (defScope st_shown) := ⟨rfl, rfl, rfl, by decide +kernel, rfl, by decide +kernel, by decide +kernel⟩
theorem d_shown {P : Program} {w : World} {K : PySem.W.Frag} {mg : Str → Option Value} {base : Heap} {k : Nat} 
    (z_str : mg "str" = none)
    (f : Addr) (cdv : Value) (A : Around) (outer : List Env) (s : Shared) (H : Hp) (E : XK) (hr : Room k (A.deeper (envOfC "shown" (defScope st_shown) s.heap.objs.size f cdv))) :
    PSs (cxOf (L2.CX P w) P w K mg base ["deed", "part"] "shown" (defScope st_shown) f cdv A outer s H E) (defBody st_shown) (t_shown K E) :=
  (pss_one (ps_ret (pe_m1 PySem.F.slot_str_join PySem.F.type_str_join mt_join pe_str (pe_lc (own := [("part", 1)]) (g := gName 1) (tt := tYes) (te := (tCB nStr (tCons (tVar 1) tNil))) rfl sc_shown.nd (pi_tup (pv 0)) (blkOk_by (own := [("part", 1)]) (N := ["deed", "part"]) (sc := defScope st_shown) (by decide +kernel)) (fun _ _ _ _ _ => pg_name (i := 1) sc_shown.nd rfl (Or.inl rfl)) (fun _ _ _ _ _ => pts_nil) (fun _ _ _ _ _ => (pe_callTy cStr rfl z_str (by decide +kernel) (pa_cons (pv 1) pa_nil)))))))
theorem sc_read : FnScope ["line", "word", "texts", "numbers", "text"] ["line"] (defScope st_read) := ⟨rfl, rfl, rfl, by decide +kernel, rfl, by decide +kernel, by decide +kernel⟩
theorem d_read {P : Program} {w : World} {K : PySem.W.Frag} {mg : Str → Option Value} {base : Heap} {k : Nat} {C_NoDeed : Addr} {D_HOW_MANY : Addr} {s_number_of : Sp}
    {k_number_of : Nat} (c_number_of : Cal P w K mg base k_number_of "number_of" ["text"] s_number_of) (h_number_of : k_number_of ≤ k) (x_NoDeed : ExcAt K mg "NoDeed" C_NoDeed) {es_HOW_MANY : Array DictEntry} {nn_HOW_MANY : Nat} (dm_HOW_MANY : mg "HOW_MANY" = some (.ref D_HOW_MANY)) (dk_HOW_MANY : KDict K w D_HOW_MANY es_HOW_MANY nn_HOW_MANY) (z_len : mg "len" = none)
    (f : Addr) (cdv : Value) (A : Around) (outer : List Env) (s : Shared) (H : Hp) (E : XK) (hr : Room k (A.deeper (envOfC "read" (defScope st_read) s.heap.objs.size f cdv))) :
    PSs (cxOf (L2.CX P w) P w K mg base ["line", "word", "texts", "numbers", "text"] "read" (defScope st_read) f cdv A outer s H E) (defBody st_read) (t_read K C_NoDeed D_HOW_MANY s_number_of E) :=
  (pss_cons (ps_asg (pe_m1 PySem.F.slot_str_split PySem.F.type_str_split mt_split (pv 0) pe_str) (pg_star (i := 1) (j := 2) rfl sc_read.nd rfl rfl (Or.inl rfl) (Or.inl rfl) (Or.inl rfl) (Or.inl rfl)))
    (pss_cons (ps_if (pt_cmpR (oNk dk_HOW_MANY) (pv 1) (pe_glob (v := .ref D_HOW_MANY) rfl dm_HOW_MANY rfl) (by with_unfolding_all rfl)) (pss_one (ps_raiseC x_NoDeed rfl)) pss_nil)
    (pss_cons (ps_if (pt_cmpR op_ne (pe_callB cLen rfl z_len boot_len (pa_cons (pv 2) pa_nil)) (pe_ix (oIxK dk_HOW_MANY) (pe_glob (v := .ref D_HOW_MANY) rfl dm_HOW_MANY rfl) (pv 1) (fun _ _ => rfl)) (nomark _)) (pss_one (ps_raiseC x_NoDeed rfl)) pss_nil)
    (pss_cons (ps_setLcE (i := 3) (own := [("text", 4)]) (g := gName 4) (tt := tYes) (te := (tCall s_number_of [] E (tCons (tVar 4) tNil))) rfl rfl rfl rfl rfl sc_read.nd rfl rfl rfl (pi_list (pv 2)) (blkOk_by (own := [("text", 4)]) (N := ["line", "word", "texts", "numbers", "text"]) (sc := defScope st_read) (by decide +kernel)) (fun _ _ _ _ _ => pg_name (i := 4) sc_read.nd rfl (Or.inl rfl)) (fun _ _ _ _ _ => pts_nil) (fun _ _ _ _ _ _ _ hp => (pe_callC c_number_of hr (by omega) rfl hp (pa_cons (pv 4) pa_nil))))
    (pss_one (ps_ret (pe_tup (pa_cons (pv 1) (StX.pa_star (pv 3) pa_nil)))))))))
theorem sc_number_of : FnScope ["text"] ["text"] (defScope st_number_of) := ⟨rfl, rfl, rfl, by decide +kernel, rfl, by decide +kernel, by decide +kernel⟩
theorem d_number_of {P : Program} {w : World} {K : PySem.W.Frag} {mg : Str → Option Value} {base : Heap} {k : Nat} {C_NoDeed : Addr} {s_is_number : Sp}
    {k_is_number : Nat} (c_is_number : Cal P w K mg base k_is_number "is_number" ["text"] s_is_number) (h_is_number : k_is_number ≤ k) (x_NoDeed : ExcAt K mg "NoDeed" C_NoDeed) (z_int : mg "int" = none)
    (f : Addr) (cdv : Value) (A : Around) (outer : List Env) (s : Shared) (H : Hp) (E : XK) (hr : Room k (A.deeper (envOfC "number_of" (defScope st_number_of) s.heap.objs.size f cdv))) :
    PSs (cxOf (L2.CX P w) P w K mg base ["text"] "number_of" (defScope st_number_of) f cdv A outer s H E) (defBody st_number_of) (t_number_of C_NoDeed s_is_number E) :=
  (pss_cons (ps_if (pt_not (pt_val (pe_callC c_is_number hr (by omega) rfl pass_own (pa_cons (pv 0) pa_nil)))) (pss_one (ps_raiseC x_NoDeed rfl)) pss_nil)
    (pss_one (ps_ret (pe_callTy cIntS rfl z_int (by decide +kernel) (pa_cons (pv 0) pa_nil)))))
theorem sc_is_number : FnScope ["text", "figures", "sign"] ["text"] (defScope st_is_number) := ⟨rfl, rfl, rfl, by decide +kernel, rfl, by decide +kernel, by decide +kernel⟩
theorem d_is_number {P : Program} {w : World} {K : PySem.W.Frag} {mg : Str → Option Value} {base : Heap} {k : Nat} 
    (tc_FIGURES : ∃ t, mg "FIGURES" = some (.str "0123456789" t)) (z_any : mg "any" = none)
    (f : Addr) (cdv : Value) (A : Around) (outer : List Env) (s : Shared) (H : Hp) (E : XK) (hr : Room k (A.deeper (envOfC "is_number" (defScope st_is_number) s.heap.objs.size f cdv))) :
    PSs (cxOf (L2.CX P w) P w K mg base ["text", "figures", "sign"] "is_number" (defScope st_is_number) f cdv A outer s H E) (defBody st_is_number) (t_is_number K E) :=
  (pss_cons (ps_set (i := 1) sc_is_number.nd rfl (Or.inl rfl) (pe_m1 PySem.F.slot_str_removeprefix PySem.F.type_str_removeprefix mt_removeprefix (pv 0) pe_str))
    (pss_cons (ps_if (PW.pt (pw_or (pt_cmpR op_eq (pv 1) pe_str (nomark _)) (pw_or1 (pt_val (pe_callB (cr_any rfl) rfl z_any (by decide +kernel) (pa_cons (pe_lc (own := [("sign", 2)]) (g := gName 2) (tt := tYes) (te := (tOp nNotSign (tVar 2) (tC (.str "0123456789")))) rfl sc_is_number.nd (pi_str (pv 1)) (blkOk_by (own := [("sign", 2)]) (N := ["text", "figures", "sign"]) (sc := defScope st_is_number) (by decide +kernel)) (fun _ _ _ _ _ => pg_name (i := 2) sc_is_number.nd rfl (Or.inl rfl)) (fun _ _ _ _ _ => pts_nil) (fun _ _ _ _ _ => (pe_cmpR oNotSign (pv 2) (pe_strc rfl tc_FIGURES) (by with_unfolding_all rfl)))) pa_nil)))))) (pss_one (ps_ret pe_bl)) pss_nil)
    (pss_one (ps_ret (pe_or (pe_cmpR op_ne (pe_ix ix_str (pv 1) pe_int (fun _ _ => rfl)) pe_str (nomark _)) (pe_one (pe_cmpR op_eq (pv 0) pe_str (nomark _))))))))
theorem sc_l_whole : FnScope ["_law_found"] ["_law_found"] (defScope st_l_whole) := ⟨rfl, rfl, rfl, by decide +kernel, rfl, by decide +kernel, by decide +kernel⟩
theorem d_l_whole {P : Program} {w : World} {K : PySem.W.Frag} {mg : Str → Option Value} {base : Heap} {k : Nat} 
    (z_int : mg "int" = none) (z_isinstance : mg "isinstance" = none) (z_bool : mg "bool" = none)
    (f : Addr) (cdv : Value) (A : Around) (outer : List Env) (s : Shared) (H : Hp) (E : XK) (hr : Room k (A.deeper (envOfC "_law_whole" (defScope st_l_whole) s.heap.objs.size f cdv))) :
    PSs (cxOf (L2.CX P w) P w K mg base ["_law_found"] "_law_whole" (defScope st_l_whole) f cdv A outer s H E) (defBody st_l_whole) (t_l_whole K E) :=
  (pss_one (ps_ret (pe_and (pe_callB call_isi rfl z_isinstance (by decide +kernel) (pa_cons (pv 0) (pa_cons (pe_bltn (v := .ty "int") rfl z_int boot_int rfl) pa_nil))) (pe_one (pe_not (pe_callB call_isi rfl z_isinstance (by decide +kernel) (pa_cons (pv 0) (pa_cons (pe_bltn (v := .ty "bool") rfl z_bool boot_bool rfl) pa_nil))))))))
theorem sc_l_cell_at : FnScope ["_law_script", "_law_k"] ["_law_script", "_law_k"] (defScope st_l_cell_at) := ⟨rfl, rfl, rfl, by decide +kernel, rfl, by decide +kernel, by decide +kernel⟩
theorem d_l_cell_at {P : Program} {w : World} {K : PySem.W.Frag} {mg : Str → Option Value} {base : Heap} {k : Nat} 
    (z_len : mg "len" = none)
    (f : Addr) (cdv : Value) (A : Around) (outer : List Env) (s : Shared) (H : Hp) (E : XK) (hr : Room k (A.deeper (envOfC "_law_cell_at" (defScope st_l_cell_at) s.heap.objs.size f cdv))) :
    PSs (cxOf (L2.CX P w) P w K mg base ["_law_script", "_law_k"] "_law_cell_at" (defScope st_l_cell_at) f cdv A outer s H E) (defBody st_l_cell_at) (t_l_cell_at K E) :=
  (pss_cons (ps_if (pt_cmpR oLt (pv 1) (pe_callB cLen rfl z_len boot_len (pa_cons (pv 0) pa_nil)) (nomark _)) (pss_one (ps_ret (pe_ix ix_list (pv 0) (pv 1) (fun _ _ => rfl)))) pss_nil)
    (pss_one (ps_ret pe_int)))
theorem sc_l_word_by : FnScope ["_law_cell", "_law_words", "_law_some", "_law_k"] ["_law_cell"] (defScope st_l_word_by) := ⟨rfl, rfl, rfl, by decide +kernel, rfl, by decide +kernel, by decide +kernel⟩
theorem d_l_word_by {P : Program} {w : World} {K : PySem.W.Frag} {mg : Str → Option Value} {base : Heap} {k : Nat} 
    (z_range : mg "range" = none)
    (f : Addr) (cdv : Value) (A : Around) (outer : List Env) (s : Shared) (H : Hp) (E : XK) (hr : Room k (A.deeper (envOfC "_law_word_by" (defScope st_l_word_by) s.heap.objs.size f cdv))) :
    PSs (cxOf (L2.CX P w) P w K mg base ["_law_cell", "_law_words", "_law_some", "_law_k"] "_law_word_by" (defScope st_l_word_by) f cdv A outer s H E) (defBody st_l_word_by) (t_l_word_by K E) :=
  (pss_cons (ps_set (i := 1) sc_l_word_by.nd rfl (Or.inl rfl) (pe_lst (pa_cons pe_str (pa_cons pe_str (pa_cons pe_str (pa_cons pe_str (pa_cons pe_str (pa_cons pe_str (pa_cons pe_str (pa_cons pe_str pa_nil))))))))))
    (pss_cons (ps_set (i := 1) sc_l_word_by.nd rfl (Or.inl rfl) (pe_op op_cat (pv 1) (pe_lst (pa_cons pe_str (pa_cons pe_str (pa_cons pe_str (pa_cons pe_str (pa_cons pe_str (pa_cons pe_str (pa_cons pe_str (pa_cons pe_str (pa_cons pe_str (pa_cons pe_str (pa_cons pe_str (pa_cons pe_str (pa_cons pe_str pa_nil))))))))))))))))
    (pss_cons (ps_set (i := 1) sc_l_word_by.nd rfl (Or.inl rfl) (pe_op op_cat (pv 1) (pe_lst (pa_cons pe_str (pa_cons pe_str (pa_cons pe_str (pa_cons pe_str (pa_cons pe_str (pa_cons pe_str (pa_cons pe_str (pa_cons pe_str (pa_cons pe_str (pa_cons pe_str pa_nil)))))))))))))
    (pss_cons (ps_if (pt_cmpR oGt (pe_op oMod (pv 0) pe_int) pe_int (nomark _)) (pss_one (ps_ret (pe_ix ix_list (pv 1) (pe_op oMod (pe_op oDiv (pv 0) pe_int) pe_int) (fun _ _ => rfl)))) pss_nil)
    (pss_cons (ps_if (pt_cmpR op_eq (pe_op oMod (pv 0) pe_int) pe_int (nomark _)) (pss_one (ps_ret (pe_ix ix_list (pv 1) (pe_op oAdd pe_int (pe_op oMod (pe_op oDiv (pv 0) pe_int) pe_int)) (fun _ _ => rfl)))) pss_nil)
    (pss_cons (ps_set (i := 2) sc_l_word_by.nd rfl (Or.inl rfl) pe_str)
    (pss_cons (ps_for (passes_of rfl) rfl (pi_range1 rfl z_range (pa_cons (pe_op oAdd pe_int (pe_op oMod (pe_op oDiv (pv 0) pe_int) pe_int)) pa_nil)) (pg_name (i := 3) sc_l_word_by.nd rfl (Or.inl rfl))
    (pss_one (ps_set (i := 2) sc_l_word_by.nd rfl (Or.inl rfl) (pe_op oCatS (pv 2) (pe_ix ix_str pe_str (pe_op oMod (pe_op oAdd (pe_op oDiv (pv 0) pe_int) (pe_op oMul (pv 3) (pe_op oDiv (pv 0) pe_int))) pe_int) (fun _ _ => rfl))))))
    (pss_one (ps_ret (pv 2))))))))))
theorem sc_l_count : FnScope ["_law_word"] ["_law_word"] (defScope st_l_count) := ⟨rfl, rfl, rfl, by decide +kernel, rfl, by decide +kernel, by decide +kernel⟩
theorem d_l_count {P : Program} {w : World} {K : PySem.W.Frag} {mg : Str → Option Value} {base : Heap} {k : Nat} 
    
    (f : Addr) (cdv : Value) (A : Around) (outer : List Env) (s : Shared) (H : Hp) (E : XK) (hr : Room k (A.deeper (envOfC "_law_count" (defScope st_l_count) s.heap.objs.size f cdv))) :
    PSs (cxOf (L2.CX P w) P w K mg base ["_law_word"] "_law_count" (defScope st_l_count) f cdv A outer s H E) (defBody st_l_count) (t_l_count K E) :=
  (pss_cons (ps_if (PW.pt (pw_or (pt_cmpR op_eq (pv 0) pe_str (nomark _)) (pw_or1 (pt_cmpR op_eq (pv 0) pe_str (nomark _))))) (pss_one (ps_ret pe_int)) pss_nil)
    (pss_cons (ps_if (pt_cmpR op_in_seq (pv 0) (pe_lst (pa_cons pe_str (pa_cons pe_str (pa_cons pe_str (pa_cons pe_str (pa_cons pe_str pa_nil)))))) (by with_unfolding_all rfl)) (pss_one (ps_ret pe_int)) pss_nil)
    (pss_cons (ps_if (pt_cmpR op_eq (pv 0) pe_str (nomark _)) (pss_one (ps_ret pe_int)) pss_nil)
    (pss_one (ps_ret (pe_un oNeg pe_int))))))
theorem sc_l_figures_by : FnScope ["_law_cell", "_law_most", "_law_tail", "_law_odd"] ["_law_cell", "_law_most"] (defScope st_l_figures_by) := ⟨rfl, rfl, rfl, by decide +kernel, rfl, by decide +kernel, by decide +kernel⟩
theorem d_l_figures_by {P : Program} {w : World} {K : PySem.W.Frag} {mg : Str → Option Value} {base : Heap} {k : Nat} 
    (z_str : mg "str" = none)
    (f : Addr) (cdv : Value) (A : Around) (outer : List Env) (s : Shared) (H : Hp) (E : XK) (hr : Room k (A.deeper (envOfC "_law_figures_by" (defScope st_l_figures_by) s.heap.objs.size f cdv))) :
    PSs (cxOf (L2.CX P w) P w K mg base ["_law_cell", "_law_most", "_law_tail", "_law_odd"] "_law_figures_by" (defScope st_l_figures_by) f cdv A outer s H E) (defBody st_l_figures_by) (t_l_figures_by K E) :=
  (pss_cons (ps_if (pt_cmpR op_eq (pe_op oMod (pv 0) pe_int) pe_int (nomark _)) (pss_one (ps_ret (pe_callTy cStr rfl z_str (by decide +kernel) (pa_cons (pe_op oMod (pe_op oDiv (pv 0) pe_int) (pv 1)) pa_nil)))) pss_nil)
    (pss_cons (ps_if (pt_cmpR op_eq (pe_op oMod (pv 0) pe_int) pe_int (nomark _)) (pss_one (ps_ret (pe_op oCatS pe_str (pe_callTy cStr rfl z_str (by decide +kernel) (pa_cons (pe_op oMod (pe_op oDiv (pv 0) pe_int) (pv 1)) pa_nil))))) pss_nil)
    (pss_cons (ps_if (pt_cmpR op_eq (pe_op oMod (pv 0) pe_int) pe_int (nomark _)) (pss_cons (ps_set (i := 2) sc_l_figures_by.nd rfl (Or.inl rfl) (pe_ix ix_list (pe_lst (pa_cons pe_str (pa_cons pe_str (pa_cons pe_str (pa_cons (pe_callTy cStr rfl z_str (by decide +kernel) (pa_cons (pe_op oMod (pe_op oDiv (pv 0) pe_int) (pe_op oDiv (pv 1) pe_int)) pa_nil)) pa_nil))))) (pe_op oMod (pe_op oDiv (pv 0) pe_int) pe_int) (fun _ _ => rfl)))
    (pss_one (ps_ret (pe_op oCatS (pe_ix ix_list (pe_lst (pa_cons pe_str (pa_cons pe_str (pa_cons pe_str (pa_cons pe_str (pa_cons pe_str (pa_cons pe_str pa_nil))))))) (pe_op oMod (pe_op oDiv (pv 0) pe_int) pe_int) (fun _ _ => rfl)) (pv 2))))) pss_nil)
    (pss_cons (ps_if (pt_cmpR op_eq (pe_op oMod (pv 0) pe_int) pe_int (nomark _)) (pss_cons (ps_set (i := 3) sc_l_figures_by.nd rfl (Or.inl rfl) (pe_lst (pa_cons pe_str (pa_cons pe_str (pa_cons pe_str (pa_cons pe_str (pa_cons pe_str (pa_cons pe_str (pa_cons pe_str (pa_cons pe_str (pa_cons pe_str (pa_cons pe_str pa_nil))))))))))))
    (pss_cons (ps_set (i := 3) sc_l_figures_by.nd rfl (Or.inl rfl) (pe_op op_cat (pv 3) (pe_lst (pa_cons pe_str (pa_cons pe_str (pa_cons pe_str (pa_cons pe_str (pa_cons pe_str (pa_cons pe_str (pa_cons pe_str (pa_cons pe_str pa_nil)))))))))))
    (pss_one (ps_ret (pe_ix ix_list (pv 3) (pe_op oMod (pe_op oDiv (pv 0) pe_int) pe_int) (fun _ _ => rfl)))))) pss_nil)
    (pss_one (ps_ret (pe_callTy cStr rfl z_str (by decide +kernel) (pa_cons (pe_op oSub (pe_op oMod (pe_op oDiv (pv 0) pe_int) pe_int) pe_int) pa_nil))))))))
theorem sc_l_signs : FnScope ["_law_some"] [] (defScope st_l_signs) := ⟨rfl, rfl, rfl, by decide +kernel, rfl, by decide +kernel, by decide +kernel⟩
theorem d_l_signs {P : Program} {w : World} {K : PySem.W.Frag} {mg : Str → Option Value} {base : Heap} {k : Nat} 
    
    (f : Addr) (cdv : Value) (A : Around) (outer : List Env) (s : Shared) (H : Hp) (E : XK) (hr : Room k (A.deeper (envOfC "_law_signs" (defScope st_l_signs) s.heap.objs.size f cdv))) :
    PSs (cxOf (L2.CX P w) P w K mg base ["_law_some"] "_law_signs" (defScope st_l_signs) f cdv A outer s H E) (defBody st_l_signs) (t_l_signs  E) :=
  (pss_cons (ps_set (i := 0) sc_l_signs.nd rfl (Or.inl rfl) pe_str)
    (pss_one (ps_ret (pe_op oCatS (pv 0) pe_str))))
theorem sc_l_number_of : FnScope ["_law_word", "_law_figures", "_law_sign"] ["_law_word"] (defScope st_l_number_of) := ⟨rfl, rfl, rfl, by decide +kernel, rfl, by decide +kernel, by decide +kernel⟩
theorem d_l_number_of {P : Program} {w : World} {K : PySem.W.Frag} {mg : Str → Option Value} {base : Heap} {k : Nat} 
    (z_len : mg "len" = none) (z_int : mg "int" = none)
    (f : Addr) (cdv : Value) (A : Around) (outer : List Env) (s : Shared) (H : Hp) (E : XK) (hr : Room k (A.deeper (envOfC "_law_number_of" (defScope st_l_number_of) s.heap.objs.size f cdv))) :
    PSs (cxOf (L2.CX P w) P w K mg base ["_law_word", "_law_figures", "_law_sign"] "_law_number_of" (defScope st_l_number_of) f cdv A outer s H E) (defBody st_l_number_of) (t_l_number_of K E) :=
  (pss_cons (ps_set (i := 1) sc_l_number_of.nd rfl (Or.inl rfl) (pv 0))
    (pss_cons (ps_if (pt_cmpR op_eq (pe_slice sl_str (pv 0) po_none (po_some pe_int)) pe_str (nomark _)) (pss_one (ps_set (i := 1) sc_l_number_of.nd rfl (Or.inl rfl) (pe_slice sl_str (pv 0) (po_some pe_int) po_none))) pss_nil)
    (pss_cons (ps_if (PW.pt (pw_or (pt_cmpR op_eq (pv 1) pe_str (nomark _)) (pw_or (pt_cmpR op_eq (pv 0) pe_str (nomark _)) (pw_or1 (PW.pt (pw_and (pt_cmpR oGt (pe_callB cLenS rfl z_len boot_len (pa_cons (pv 1) pa_nil)) pe_int (nomark _)) (pw_and1 (pt_cmpR op_eq (pe_ix ix_str (pv 1) pe_int (fun _ _ => rfl)) pe_str (nomark _))))))))) (pss_one (ps_ret pe_non)) pss_nil)
    (pss_cons (ps_for (passes_of rfl) rfl (pi_str (pv 1)) (pg_name (i := 2) sc_l_number_of.nd rfl (Or.inl rfl))
    (pss_one (ps_if (pt_cmpR oNotSign (pv 2) pe_str (by with_unfolding_all rfl)) (pss_one (ps_ret pe_non)) pss_nil)))
    (pss_one (ps_ret (pe_callTy cIntS rfl z_int (by decide +kernel) (pa_cons (pv 0) pa_nil))))))))
theorem sc_l_deed_of : FnScope ["_law_line", "_law_parts", "_law_part", "_law_sign", "_law_deed", "_law_word"] ["_law_line"] (defScope st_l_deed_of) := ⟨rfl, rfl, rfl, by decide +kernel, rfl, by decide +kernel, by decide +kernel⟩
theorem d_l_deed_of {P : Program} {w : World} {K : PySem.W.Frag} {mg : Str → Option Value} {base : Heap} {k : Nat} {s_l_count : Sp} {s_l_number_of : Sp}
    {k_l_count : Nat} (c_l_count : Cal P w K mg base k_l_count "_law_count" ["_law_word"] s_l_count) (h_l_count : k_l_count ≤ k) {k_l_number_of : Nat} (c_l_number_of : Cal P w K mg base k_l_number_of "_law_number_of" ["_law_word"] s_l_number_of) (h_l_number_of : k_l_number_of ≤ k) (z_len : mg "len" = none) (z_tuple : mg "tuple" = none)
    (f : Addr) (cdv : Value) (A : Around) (outer : List Env) (s : Shared) (H : Hp) (E : XK) (hr : Room k (A.deeper (envOfC "_law_deed_of" (defScope st_l_deed_of) s.heap.objs.size f cdv))) :
    PSs (cxOf (L2.CX P w) P w K mg base ["_law_line", "_law_parts", "_law_part", "_law_sign", "_law_deed", "_law_word"] "_law_deed_of" (defScope st_l_deed_of) f cdv A outer s H E) (defBody st_l_deed_of) (t_l_deed_of K s_l_count s_l_number_of E) :=
  (pss_cons (ps_set (i := 1) sc_l_deed_of.nd rfl (Or.inl rfl) (pe_lst pa_nil))
    (pss_cons (ps_set (i := 2) sc_l_deed_of.nd rfl (Or.inl rfl) pe_str)
    (pss_cons (ps_for (passes_of rfl) rfl (pi_str (pe_op oCatS (pv 0) pe_str)) (pg_name (i := 3) sc_l_deed_of.nd rfl (Or.inl rfl))
    (pss_one (ps_if (pt_cmpR op_eq (pv 3) pe_str (nomark _)) (pss_cons (ps_expr (pe_bm PySem.F.plainAttrs_list PySem.F.slot_list_append PySem.F.type_list_append mt_append (pv 1) (pa_cons (pv 2) pa_nil)))
    (pss_one (ps_set (i := 2) sc_l_deed_of.nd rfl (Or.inl rfl) pe_str))) (pss_one (ps_set (i := 2) sc_l_deed_of.nd rfl (Or.inl rfl) (pe_op oCatS (pv 2) (pv 3)))))))
    (pss_cons (ps_if (pt_cmpR op_ne (pe_callC c_l_count hr (by omega) rfl pass_own (pa_cons (pe_ix ix_list (pv 1) pe_int (fun _ _ => rfl)) pa_nil)) (pe_op oSub (pe_callB cLen rfl z_len boot_len (pa_cons (pv 1) pa_nil)) pe_int) (nomark _)) (pss_one (ps_ret pe_non)) pss_nil)
    (pss_cons (ps_set (i := 4) sc_l_deed_of.nd rfl (Or.inl rfl) (pe_lst (pa_cons (pe_ix ix_list (pv 1) pe_int (fun _ _ => rfl)) pa_nil)))
    (pss_cons (ps_for (passes_of rfl) rfl (pi_list (pe_slice sl_list (pv 1) (po_some pe_int) po_none)) (pg_name (i := 5) sc_l_deed_of.nd rfl (Or.inl rfl))
    (pss_cons (ps_if (pt_cmpR oIs (pe_callC c_l_number_of hr (by omega) rfl pass_own (pa_cons (pv 5) pa_nil)) pe_non (nomark _)) (pss_one (ps_ret pe_non)) pss_nil)
    (pss_one (ps_expr (pe_bm PySem.F.plainAttrs_list PySem.F.slot_list_append PySem.F.type_list_append mt_append (pv 4) (pa_cons (pe_callC c_l_number_of hr (by omega) rfl pass_own (pa_cons (pv 5) pa_nil)) pa_nil))))))
    (pss_one (ps_ret (pe_callTy cTuple rfl z_tuple (by decide +kernel) (pa_cons (pv 4) pa_nil))))))))))
theorem sc_l_refused_by_any : FnScope ["_law_line", "e"] ["_law_line"] (defScope st_l_refused_by_any) := ⟨rfl, rfl, rfl, by decide +kernel, rfl, by decide +kernel, by decide +kernel⟩
theorem d_l_refused_by_any {P : Program} {w : World} {K : PySem.W.Frag} {mg : Str → Option Value} {base : Heap} {k : Nat} {C_BookError : Addr} {C_TooMany : Addr} {C_OutOfRow : Addr} {C_Nothing : Addr} {C_NoRow : Addr} {C_NoDeed : Addr} {s_read : Sp}
    {k_read : Nat} (c_read : Cal P w K mg base k_read "read" ["line"] s_read) (h_read : k_read ≤ k) (x_BookError : ExcAt K mg "BookError" C_BookError) (x_TooMany : ExcAt K mg "TooMany" C_TooMany) (x_OutOfRow : ExcAt K mg "OutOfRow" C_OutOfRow) (x_Nothing : ExcAt K mg "Nothing" C_Nothing) (x_NoRow : ExcAt K mg "NoRow" C_NoRow) (e_NoDeed : ExcC K C_NoDeed) (z_isinstance : mg "isinstance" = none) (z_ValueError : mg "ValueError" = none)
    (f : Addr) (cdv : Value) (A : Around) (outer : List Env) (s : Shared) (H : Hp) (E : XK) (hr : Room k (A.deeper (envOfC "_law_refused_by_any" (defScope st_l_refused_by_any) s.heap.objs.size f cdv))) :
    PSs (cxOf (L2.CX P w) P w K mg base ["_law_line", "e"] "_law_refused_by_any" (defScope st_l_refused_by_any) f cdv A outer s H E) (defBody st_l_refused_by_any) (t_l_refused_by_any K C_BookError C_TooMany C_OutOfRow C_Nothing C_NoRow C_NoDeed s_read E) :=
  (pss_cons (ps_try_as (i := 1) (tb := fun W => (tDrop (tCallS s_read (WE W) (tCons (tVar 0) tNil)))) (ts := fun a cls d => (tKnown cls d (.ref C_NoDeed) (tSeq (tIfS (tB (tCB (rIsEs K C_NoDeed a) (tCons (tVar 1) (tCons (tTup (tCons (tC (.ref C_NoRow)) (tCons (tC (.ref C_Nothing)) (tCons (tC (.ref C_OutOfRow)) (tCons (tC (.ref C_TooMany)) tNil))))) tNil)))) (tRet (tC (.bl false))) tNext)
    (tRet (tCB (rIsE K C_NoDeed a) (tCons (tVar 1) (tCons (tC (.ty "ValueError")) tNil))))))) (Wout := fun cls d _ H => E cls d H) rfl rfl sc_l_refused_by_any.nd rfl rfl ⟨rfl, by decide, .inl x_BookError.g⟩ (takes_of rfl rfl rfl rfl) (fun W pn xe tk _ => (pss_one (ps_expr (pe_callSC c_read hr (by omega) rfl (fun σ => passAt tk σ) (pa_cons (pv 0) pa_nil))))) (fun a oe cls d pn hz hf => pss_known fun h1 h2 => (pss_cons (ps_if (pt_val (pe_callB (call_isEs e_NoDeed (by rw [← h1, ← h2]; exact hz) hf) rfl z_isinstance (by decide +kernel) (pa_cons (pv 1) (pa_cons (pe_tup (pa_cons (pe_glob (v := .ref C_NoRow) rfl x_NoRow.g rfl) (pa_cons (pe_glob (v := .ref C_Nothing) rfl x_Nothing.g rfl) (pa_cons (pe_glob (v := .ref C_OutOfRow) rfl x_OutOfRow.g rfl) (pa_cons (pe_glob (v := .ref C_TooMany) rfl x_TooMany.g rfl) pa_nil))))) pa_nil)))) (pss_one (ps_ret pe_bl)) pss_nil)
    (pss_one (ps_ret (pe_callB (call_isE e_NoDeed (by rw [← h1, ← h2]; exact hz) hf) rfl z_isinstance (by decide +kernel) (pa_cons (pv 1) (pa_cons (pe_bltn (v := .ty "ValueError") rfl z_ValueError (by decide +kernel) rfl) pa_nil))))))))
    (pss_one (ps_ret pe_bl)))
theorem sc_law_k09 : FnScope ["_law_script", "_law_word", "_law_many", "_law_most", "_law_line", "_law_k", "_law_at", "_law_due", "_law_found", "_law_refused", "_law_number", "_law_written"] ["_law_script"] (defScope st_law_k09) := ⟨rfl, rfl, rfl, by decide +kernel, rfl, by decide +kernel, by decide +kernel⟩
theorem d_law_k09 {P : Program} {w : World} {K : PySem.W.Frag} {mg : Str → Option Value} {base : Heap} {k : Nat} {C_NoDeed : Addr} {s_l_cell_at : Sp} {s_l_word_by : Sp} {s_l_count : Sp} {s_l_figures_by : Sp} {s_l_signs : Sp} {s_l_deed_of : Sp} {s_read : Sp} {s_l_refused_by_any : Sp} {s_l_whole : Sp} {s_shown : Sp}
    {k_l_cell_at : Nat} (c_l_cell_at : Cal P w K mg base k_l_cell_at "_law_cell_at" ["_law_script", "_law_k"] s_l_cell_at) (h_l_cell_at : k_l_cell_at ≤ k) {k_l_word_by : Nat} (c_l_word_by : Cal P w K mg base k_l_word_by "_law_word_by" ["_law_cell"] s_l_word_by) (h_l_word_by : k_l_word_by ≤ k) {k_l_count : Nat} (c_l_count : Cal P w K mg base k_l_count "_law_count" ["_law_word"] s_l_count) (h_l_count : k_l_count ≤ k) {k_l_figures_by : Nat} (c_l_figures_by : Cal P w K mg base k_l_figures_by "_law_figures_by" ["_law_cell", "_law_most"] s_l_figures_by) (h_l_figures_by : k_l_figures_by ≤ k) {k_l_signs : Nat} (c_l_signs : Cal P w K mg base k_l_signs "_law_signs" [] s_l_signs) (h_l_signs : k_l_signs ≤ k) {k_l_deed_of : Nat} (c_l_deed_of : Cal P w K mg base k_l_deed_of "_law_deed_of" ["_law_line"] s_l_deed_of) (h_l_deed_of : k_l_deed_of ≤ k) {k_read : Nat} (c_read : Cal P w K mg base k_read "read" ["line"] s_read) (h_read : k_read ≤ k) {k_l_refused_by_any : Nat} (c_l_refused_by_any : Cal P w K mg base k_l_refused_by_any "_law_refused_by_any" ["_law_line"] s_l_refused_by_any) (h_l_refused_by_any : k_l_refused_by_any ≤ k) {k_l_whole : Nat} (c_l_whole : Cal P w K mg base k_l_whole "_law_whole" ["_law_found"] s_l_whole) (h_l_whole : k_l_whole ≤ k) {k_shown : Nat} (c_shown : Cal P w K mg base k_shown "shown" ["deed"] s_shown) (h_shown : k_shown ≤ k) (x_NoDeed : ExcAt K mg "NoDeed" C_NoDeed) (z_max : mg "max" = none) (z_range : mg "range" = none) (z_len : mg "len" = none) (z_tuple : mg "tuple" = none) (z_isinstance : mg "isinstance" = none) (z_str : mg "str" = none)
    (f : Addr) (cdv : Value) (A : Around) (outer : List Env) (s : Shared) (H : Hp) (E : XK) (hr : Room k (A.deeper (envOfC "law" (defScope st_law_k09) s.heap.objs.size f cdv))) :
    PSs (cxOf (L2.CX P w) P w K mg base ["_law_script", "_law_word", "_law_many", "_law_most", "_law_line", "_law_k", "_law_at", "_law_due", "_law_found", "_law_refused", "_law_number", "_law_written"] "law" (defScope st_law_k09) f cdv A outer s H E) (defBody st_law_k09) (t_law_k09 K C_NoDeed s_l_cell_at s_l_word_by s_l_count s_l_figures_by s_l_signs s_l_deed_of s_read s_l_refused_by_any s_l_whole s_shown E) :=
  (pss_cons (ps_set (i := 1) sc_law_k09.nd rfl (Or.inl rfl) (pe_callC c_l_word_by hr (by omega) rfl pass_own (pa_cons (pe_callC c_l_cell_at hr (by omega) rfl pass_own (pa_cons (pv 0) (pa_cons pe_int pa_nil))) pa_nil)))
    (pss_cons (ps_set (i := 2) sc_law_k09.nd rfl (Or.inl rfl) (pe_callB (cMax rfl) rfl z_max (by decide +kernel) (pa_cons (pe_callC c_l_count hr (by omega) rfl pass_own (pa_cons (pv 1) pa_nil)) (pa_cons pe_int pa_nil))))
    (pss_cons (ps_if (pt_cmpR op_eq (pe_op oMod (pe_callC c_l_cell_at hr (by omega) rfl pass_own (pa_cons (pv 0) (pa_cons pe_int pa_nil))) pe_int) pe_int (nomark _)) (pss_one (ps_set (i := 2) sc_law_k09.nd rfl (Or.inl rfl) (pe_op oMod (pe_op oDiv (pe_callC c_l_cell_at hr (by omega) rfl pass_own (pa_cons (pv 0) (pa_cons pe_int pa_nil))) pe_int) pe_int))) pss_nil)
    (pss_cons (ps_set (i := 3) sc_law_k09.nd rfl (Or.inl rfl) (pe_op oPow pe_int pe_int))
    (pss_cons (ps_if (pt_cmpR oGt (pe_op oMod (pe_callC c_l_cell_at hr (by omega) rfl pass_own (pa_cons (pv 0) (pa_cons pe_int pa_nil))) pe_int) pe_int (nomark _)) (pss_one (ps_set (i := 3) sc_law_k09.nd rfl (Or.inl rfl) (pe_op oPow pe_int pe_int))) pss_nil)
    (pss_cons (ps_set (i := 4) sc_law_k09.nd rfl (Or.inl rfl) (pv 1))
    (pss_cons (ps_for (passes_of rfl) rfl (pi_range1 rfl z_range (pa_cons (pv 2) pa_nil)) (pg_name (i := 5) sc_law_k09.nd rfl (Or.inl rfl))
    (pss_one (ps_set (i := 4) sc_law_k09.nd rfl (Or.inl rfl) (pe_op oCatS (pe_op oCatS (pv 4) pe_str) (pe_callC c_l_figures_by hr (by omega) rfl pass_own (pa_cons (pe_callC c_l_cell_at hr (by omega) rfl pass_own (pa_cons (pv 0) (pa_cons (pe_op oAdd pe_int (pv 5)) pa_nil))) (pa_cons (pv 3) pa_nil)))))))
    (pss_cons (ps_set (i := 6) sc_law_k09.nd rfl (Or.inl rfl) (pe_op oMod (pe_callC c_l_cell_at hr (by omega) rfl pass_own (pa_cons (pv 0) (pa_cons pe_int pa_nil))) (pe_op oAdd (pe_callB cLenS rfl z_len boot_len (pa_cons (pv 4) pa_nil)) pe_int)))
    (pss_cons (ps_if (pt_cmpR op_eq (pe_op oMod (pe_callC c_l_cell_at hr (by omega) rfl pass_own (pa_cons (pv 0) (pa_cons pe_int pa_nil))) pe_int) pe_int (nomark _)) (pss_one (ps_set (i := 4) sc_law_k09.nd rfl (Or.inl rfl) (pe_op oCatS (pe_op oCatS (pe_slice sl_str (pv 4) po_none (po_some (pv 6))) pe_str) (pe_slice sl_str (pv 4) (po_some (pv 6)) po_none)))) pss_nil)
    (pss_cons (ps_if (pt_cmpR op_eq (pe_op oMod (pe_callC c_l_cell_at hr (by omega) rfl pass_own (pa_cons (pv 0) (pa_cons pe_int pa_nil))) pe_int) pe_int (nomark _)) (pss_one (ps_set (i := 4) sc_law_k09.nd rfl (Or.inl rfl) (pe_op oCatS (pe_op oCatS (pe_slice sl_str (pv 4) po_none (po_some (pv 6))) (pe_ix ix_str (pe_callC0 c_l_signs hr (by omega) rfl pass_own) (pe_op oMod (pe_callC c_l_cell_at hr (by omega) rfl pass_own (pa_cons (pv 0) (pa_cons pe_int pa_nil))) pe_int) (fun _ _ => rfl))) (pe_slice sl_str (pv 4) (po_some (pv 6)) po_none)))) pss_nil)
    (pss_cons (ps_if (pt_cmpR op_eq (pe_op oMod (pe_callC c_l_cell_at hr (by omega) rfl pass_own (pa_cons (pv 0) (pa_cons pe_int pa_nil))) pe_int) pe_int (nomark _)) (pss_one (ps_set (i := 4) sc_law_k09.nd rfl (Or.inl rfl) (pe_op oCatS (pe_op oCatS (pe_slice sl_str (pv 4) po_none (po_some (pv 6))) (pe_ix ix_str (pe_callC0 c_l_signs hr (by omega) rfl pass_own) (pe_op oMod (pe_callC c_l_cell_at hr (by omega) rfl pass_own (pa_cons (pv 0) (pa_cons pe_int pa_nil))) pe_int) (fun _ _ => rfl))) (pe_slice sl_str (pv 4) (po_some (pe_op oAdd (pv 6) pe_int)) po_none)))) pss_nil)
    (pss_cons (ps_if (pt_cmpR op_eq (pe_op oMod (pe_callC c_l_cell_at hr (by omega) rfl pass_own (pa_cons (pv 0) (pa_cons pe_int pa_nil))) pe_int) pe_int (nomark _)) (pss_one (ps_set (i := 4) sc_law_k09.nd rfl (Or.inl rfl) (pe_op oCatS (pe_slice sl_str (pv 4) po_none (po_some (pv 6))) (pe_slice sl_str (pv 4) (po_some (pe_op oAdd (pv 6) pe_int)) po_none)))) pss_nil)
    (pss_cons (ps_set (i := 7) sc_law_k09.nd rfl (Or.inl rfl) (pe_callC c_l_deed_of hr (by omega) rfl pass_own (pa_cons (pv 4) pa_nil)))
    (pss_cons (ps_set (i := 8) sc_law_k09.nd rfl (Or.inl rfl) pe_non)
    (pss_cons (ps_set (i := 9) sc_law_k09.nd rfl (Or.inl rfl) pe_bl)
    (pss_cons (ps_try_only (tb := fun W => (tAsg (tCallS s_read (WE W) (tCons (tVar 4) tNil)) (gName 8))) (ts := fun a cls d => (tAsg (tC (.bl true)) (gName 9))) (Wout := fun cls d _ H => E cls d H) rfl rfl ⟨rfl, by decide, .inl x_NoDeed.g⟩ (takes_of rfl rfl rfl rfl) (fun W pn xe tk _ => (pss_one (ps_set (i := 8) sc_law_k09.nd rfl (Or.inl rfl) (pe_callSC c_read hr (by omega) rfl (fun σ => passAt tk σ) (pa_cons (pv 4) pa_nil))))) (fun a oe cls d pn hz hf => (pss_one (ps_set (i := 9) sc_law_k09.nd rfl (Or.inl rfl) pe_bl))))
    (pss_cons (ps_if (pt_cmpR oIs (pv 7) pe_non (nomark _)) (pss_one (ps_ret (pe_and (pv 9) (pe_one (pe_callC c_l_refused_by_any hr (by omega) rfl pass_own (pa_cons (pv 4) pa_nil)))))) pss_nil)
    (pss_cons (ps_if (PW.pt (pw_or (pt_val (pv 9)) (pw_or (pt_not (pt_val (pe_callB call_isi rfl z_isinstance (by decide +kernel) (pa_cons (pv 8) (pa_cons (pe_bltn (v := .ty "tuple") rfl z_tuple boot_tuple rfl) pa_nil))))) (pw_or (pt_cmpR op_ne (pe_callB cLen rfl z_len boot_len (pa_cons (pv 8) pa_nil)) (pe_callB cLen rfl z_len boot_len (pa_cons (pv 7) pa_nil)) (nomark _)) (pw_or1 (pt_not (pt_val (pe_callB call_isi rfl z_isinstance (by decide +kernel) (pa_cons (pe_ix ix_tup (pv 8) pe_int (fun _ _ => rfl)) (pa_cons (pe_bltn (v := .ty "str") rfl z_str boot_str rfl) pa_nil)))))))))) (pss_one (ps_ret pe_bl)) pss_nil)
    (pss_cons (ps_for (passes_of rfl) rfl (pi_tup (pe_slice sl_tupA (pv 8) (po_some pe_int) po_none)) (pg_name (i := 10) sc_law_k09.nd rfl (Or.inl rfl))
    (pss_one (ps_if (pt_not (pt_val (pe_callC c_l_whole hr (by omega) rfl pass_own (pa_cons (pv 10) pa_nil)))) (pss_one (ps_ret pe_bl)) pss_nil)))
    (pss_cons (ps_set (i := 11) sc_law_k09.nd rfl (Or.inl rfl) (pe_callC c_shown hr (by omega) rfl pass_own (pa_cons (pv 7) pa_nil)))
    (pss_one (ps_ret (pe_and (pe_cmpR (op_eqD hr.units) (pv 8) (pv 7) (nomark _)) (pe_and (pe_callB call_isi rfl z_isinstance (by decide +kernel) (pa_cons (pv 11) (pa_cons (pe_bltn (v := .ty "str") rfl z_str boot_str rfl) pa_nil))) (pe_one (pe_cmpR op_eq (pv 11) (pv 4) (nomark _)))))))))))))))))))))))))))
end RB
namespace RB
open PySem PySem.Spec PyProof.Rows L2 LamX NdefX
theorem run_k09 {P : Program} {w : World} {K : PySem.W.Frag} {mg : Str → Option Value} {base : Heap} {C_NoDeed C_BookError C_TooMany C_OutOfRow C_Nothing C_NoRow D_HOW_MANY : Addr} {fa : Addr} {fd : FuncData}
    (D_shown : DefAt K mg "shown" st_shown ["deed"])
    (D_read : DefAt K mg "read" st_read ["line"])
    (D_number_of : DefAt K mg "number_of" st_number_of ["text"])
    (D_is_number : DefAt K mg "is_number" st_is_number ["text"])
    (D_l_whole : DefAt K mg "_law_whole" st_l_whole ["_law_found"])
    (D_l_cell_at : DefAt K mg "_law_cell_at" st_l_cell_at ["_law_script", "_law_k"])
    (D_l_word_by : DefAt K mg "_law_word_by" st_l_word_by ["_law_cell"])
    (D_l_count : DefAt K mg "_law_count" st_l_count ["_law_word"])
    (D_l_figures_by : DefAt K mg "_law_figures_by" st_l_figures_by ["_law_cell", "_law_most"])
    (D_l_signs : DefAt K mg "_law_signs" st_l_signs [])
    (D_l_number_of : DefAt K mg "_law_number_of" st_l_number_of ["_law_word"])
    (D_l_deed_of : DefAt K mg "_law_deed_of" st_l_deed_of ["_law_line"])
    (D_l_refused_by_any : DefAt K mg "_law_refused_by_any" st_l_refused_by_any ["_law_line"])
    (x_NoDeed : ExcAt K mg "NoDeed" C_NoDeed)
    (x_BookError : ExcAt K mg "BookError" C_BookError)
    (x_TooMany : ExcAt K mg "TooMany" C_TooMany)
    (x_OutOfRow : ExcAt K mg "OutOfRow" C_OutOfRow)
    (x_Nothing : ExcAt K mg "Nothing" C_Nothing)
    (x_NoRow : ExcAt K mg "NoRow" C_NoRow)
    (e_NoDeed : ExcC K C_NoDeed)
    (v_NoDeed_NoDeed : PySem.W.exmOne K (.ref C_NoDeed) (.ref C_NoDeed) = some true)
    (v_NoDeed_BookError : PySem.W.exmOne K (.ref C_NoDeed) (.ref C_BookError) = some true)
    (kv_NoDeed_NoRow : PySem.W.kitOne K (.ref C_NoDeed) (.ref C_NoRow) = some false)
    (kv_NoDeed_Nothing : PySem.W.kitOne K (.ref C_NoDeed) (.ref C_Nothing) = some false)
    (kv_NoDeed_OutOfRow : PySem.W.kitOne K (.ref C_NoDeed) (.ref C_OutOfRow) = some false)
    (kv_NoDeed_TooMany : PySem.W.kitOne K (.ref C_NoDeed) (.ref C_TooMany) = some false)
    (kv_NoDeed_ValueError : PySem.W.kitOne K (.ref C_NoDeed) (.type "ValueError") = some true)
    (tc_FIGURES : ∃ t, mg "FIGURES" = some (.str "0123456789" t))
    {es_HOW_MANY : Array DictEntry} {nn_HOW_MANY : Nat} (dm_HOW_MANY : mg "HOW_MANY" = some (.ref D_HOW_MANY)) (dk_HOW_MANY : KDict K w D_HOW_MANY es_HOW_MANY nn_HOW_MANY) (MM_HOW_MANY : Many K D_HOW_MANY)
    (z_str : mg "str" = none)
    (z_len : mg "len" = none)
    (z_int : mg "int" = none)
    (z_any : mg "any" = none)
    (z_isinstance : mg "isinstance" = none)
    (z_bool : mg "bool" = none)
    (z_range : mg "range" = none)
    (z_tuple : mg "tuple" = none)
    (z_ValueError : mg "ValueError" = none)
    (z_max : mg "max" = none)
    (F : Fun K "law" "law" st_law_k09 fa fd) : FnOk P w K mg base (L2.CX P w) 5 fa fd ["_law_script"] (sp_law K) := by
  have c_shown : Cal P w K mg base 1 "shown" ["deed"] sp_shown := D_shown.cal (k := 0) sc_shown (fun vs H Q E h => by obtain ⟨_, _, _, _, rfl, _⟩ := h; rfl) (t_shown K) (fun f cdv A outer s H E hr => d_shown z_str f cdv A outer s H E hr) p_shown
  have c_is_number : Cal P w K mg base 1 "is_number" ["text"] sp_is_number := D_is_number.cal (k := 0) sc_is_number (fun vs H Q E h => by obtain ⟨_, rfl, _⟩ := h; rfl) (t_is_number K) (fun f cdv A outer s H E hr => d_is_number tc_FIGURES z_any f cdv A outer s H E hr) p_is_number
  have c_number_of : Cal P w K mg base 2 "number_of" ["text"] (sp_number_of C_NoDeed) := D_number_of.cal (k := 1) sc_number_of (fun vs H Q E h => by obtain ⟨_, rfl, _⟩ := h; rfl) (t_number_of C_NoDeed sp_is_number) (fun f cdv A outer s H E hr => d_number_of c_is_number (by omega) x_NoDeed z_int f cdv A outer s H E hr) p_number_of
  have c_read : Cal P w K mg base 3 "read" ["line"] (sp_read C_NoDeed) := D_read.cal (k := 2) sc_read (fun vs H Q E h => by obtain ⟨_, rfl, _⟩ := h; rfl) (t_read K C_NoDeed D_HOW_MANY (sp_number_of C_NoDeed)) (fun f cdv A outer s H E hr => d_read c_number_of (by omega) x_NoDeed dm_HOW_MANY dk_HOW_MANY z_len f cdv A outer s H E hr) (p_read MM_HOW_MANY)
  have c_l_whole : Cal P w K mg base 1 "_law_whole" ["_law_found"] sp_l_whole := D_l_whole.cal (k := 0) sc_l_whole (fun vs H Q E h => by obtain ⟨_, rfl, _⟩ := h; rfl) (t_l_whole K) (fun f cdv A outer s H E hr => d_l_whole z_int z_isinstance z_bool f cdv A outer s H E hr) p_l_whole
  have c_l_cell_at : Cal P w K mg base 1 "_law_cell_at" ["_law_script", "_law_k"] (sp_l_cell_at K) := D_l_cell_at.cal (k := 0) sc_l_cell_at (fun vs H Q E h => by obtain ⟨_, _, _, rfl, _⟩ := h; rfl) (t_l_cell_at K) (fun f cdv A outer s H E hr => d_l_cell_at z_len f cdv A outer s H E hr) p_l_cell_at
  have c_l_word_by : Cal P w K mg base 1 "_law_word_by" ["_law_cell"] sp_l_word_by := D_l_word_by.cal (k := 0) sc_l_word_by (fun vs H Q E h => by obtain ⟨_, rfl, _⟩ := h; rfl) (t_l_word_by K) (fun f cdv A outer s H E hr => d_l_word_by z_range f cdv A outer s H E hr) p_l_word_by
  have c_l_count : Cal P w K mg base 1 "_law_count" ["_law_word"] sp_l_count := D_l_count.cal (k := 0) sc_l_count (fun vs H Q E h => by obtain ⟨_, rfl, _⟩ := h; rfl) (t_l_count K) (fun f cdv A outer s H E hr => d_l_count f cdv A outer s H E hr) p_l_count
  have c_l_figures_by : Cal P w K mg base 1 "_law_figures_by" ["_law_cell", "_law_most"] sp_l_figures_by := D_l_figures_by.cal (k := 0) sc_l_figures_by (fun vs H Q E h => by obtain ⟨_, _, rfl, _⟩ := h; rfl) (t_l_figures_by K) (fun f cdv A outer s H E hr => d_l_figures_by z_str f cdv A outer s H E hr) p_l_figures_by
  have c_l_signs : Cal P w K mg base 1 "_law_signs" [] sp_l_signs := D_l_signs.cal (k := 0) sc_l_signs (fun vs H Q E h => by obtain ⟨rfl, _⟩ := h; rfl) (t_l_signs ) (fun f cdv A outer s H E hr => d_l_signs f cdv A outer s H E hr) p_l_signs
  have c_l_number_of : Cal P w K mg base 1 "_law_number_of" ["_law_word"] sp_l_number_of := D_l_number_of.cal (k := 0) sc_l_number_of (fun vs H Q E h => by obtain ⟨_, rfl, _⟩ := h; rfl) (t_l_number_of K) (fun f cdv A outer s H E hr => d_l_number_of z_len z_int f cdv A outer s H E hr) p_l_number_of
  have c_l_deed_of : Cal P w K mg base 2 "_law_deed_of" ["_law_line"] sp_l_deed_of := D_l_deed_of.cal (k := 1) sc_l_deed_of (fun vs H Q E h => by obtain ⟨_, rfl, _⟩ := h; rfl) (t_l_deed_of K sp_l_count sp_l_number_of) (fun f cdv A outer s H E hr => d_l_deed_of c_l_count (by omega) c_l_number_of (by omega) z_len z_tuple f cdv A outer s H E hr) p_l_deed_of
  have c_l_refused_by_any : Cal P w K mg base 4 "_law_refused_by_any" ["_law_line"] (sp_l_refused_by_any C_NoDeed) := D_l_refused_by_any.cal (k := 3) sc_l_refused_by_any (fun vs H Q E h => by obtain ⟨_, rfl, _⟩ := h; rfl) (t_l_refused_by_any K C_BookError C_TooMany C_OutOfRow C_Nothing C_NoRow C_NoDeed (sp_read C_NoDeed)) (fun f cdv A outer s H E hr => d_l_refused_by_any c_read (by omega) x_BookError x_TooMany x_OutOfRow x_Nothing x_NoRow e_NoDeed z_isinstance z_ValueError f cdv A outer s H E hr) (p_l_refused_by_any v_NoDeed_BookError kv_NoDeed_NoRow kv_NoDeed_Nothing kv_NoDeed_OutOfRow kv_NoDeed_TooMany kv_NoDeed_ValueError)
  exact RB.Fun.fn F (n := 4) sc_law_k09 (fun vs H Q E h => by obtain ⟨_, _, rfl, _⟩ := h; rfl) (t_law_k09 K C_NoDeed (sp_l_cell_at K) sp_l_word_by sp_l_count sp_l_figures_by sp_l_signs sp_l_deed_of (sp_read C_NoDeed) (sp_l_refused_by_any C_NoDeed) sp_l_whole sp_shown) (fun f cdv A outer s H E hr => d_law_k09 c_l_cell_at (by omega) c_l_word_by (by omega) c_l_count (by omega) c_l_figures_by (by omega) c_l_signs (by omega) c_l_deed_of (by omega) c_read (by omega) c_l_refused_by_any (by omega) c_l_whole (by omega) c_shown (by omega) x_NoDeed z_max z_range z_len z_tuple z_isinstance z_str f cdv A outer s H E hr) (p_law_k09 v_NoDeed_NoDeed)
end RB
open PySem PySem.W PyProof.Rows
set_option maxRecDepth 100000 in
set_option maxHeartbeats 0 in
theorem PySem.Challenge.cw_rangebook_k09_lines_read_and_written_holds : PySem.Challenge.rw_rangebook_k09_lines_read_and_written.Holds := by
  w_on; o_law; k_head; (case hw => w_witness2)
  k_fill
  refine RB.walk (l := PySem.Challenge.rw_rangebook_k09_lines_read_and_written) (k := 5) rfl rfl ⟨rfl, by decide, by decide⟩ (fun w h Y => PySem.W.kIn_of Y) ?F
  case F =>
    intro w mg fa h KX G hmg GX
    refine' RB.law_mk (st := RB.st_law_k09) KX G hmg ?hla ?hll ?hlc ?hlk ?hlb ?hrun
    (case hla => k_is); (case hll => k_is); (case hlc => k_is); (case hlk => k_is); (case hlb => exact fun s v => .of_eq rfl)
    case hrun =>
      intro base fd F
      refine' RB.run_k09 ?h_D_shown ?h_D_read ?h_D_number_of ?h_D_is_number ?h_D_l_whole ?h_D_l_cell_at ?h_D_l_word_by ?h_D_l_count ?h_D_l_figures_by ?h_D_l_signs ?h_D_l_number_of ?h_D_l_deed_of ?h_D_l_refused_by_any ?h_x_NoDeed ?h_x_BookError ?h_x_TooMany ?h_x_OutOfRow ?h_x_Nothing ?h_x_NoRow ?h_e_NoDeed ?h_v_NoDeed_NoDeed ?h_v_NoDeed_BookError ?h_kv_NoDeed_NoRow ?h_kv_NoDeed_Nothing ?h_kv_NoDeed_OutOfRow ?h_kv_NoDeed_TooMany ?h_kv_NoDeed_ValueError ?h_tc_FIGURES ?h_dm_HOW_MANY ?h_dk_HOW_MANY ?h_MM_HOW_MANY ?h_z_str ?h_z_len ?h_z_int ?h_z_any ?h_z_isinstance ?h_z_bool ?h_z_range ?h_z_tuple ?h_z_ValueError ?h_z_max F
      (case h_D_shown => (refine' RB.DefAt.mk' KX G ?h0a ?h0l ?h0c ?h0k (fun _ _ _ _ _ _ us hl => match us, hl with | [_], _ => rfl); (case h0a => k_is); (case h0l => k_is); (case h0c => k_is); (case h0k => k_is)))
      (case h_D_read => (refine' RB.DefAt.mk' KX G ?h1a ?h1l ?h1c ?h1k (fun _ _ _ _ _ _ us hl => match us, hl with | [_], _ => rfl); (case h1a => k_is); (case h1l => k_is); (case h1c => k_is); (case h1k => k_is)))
      (case h_D_number_of => (refine' RB.DefAt.mk' KX G ?h2a ?h2l ?h2c ?h2k (fun _ _ _ _ _ _ us hl => match us, hl with | [_], _ => rfl); (case h2a => k_is); (case h2l => k_is); (case h2c => k_is); (case h2k => k_is)))
      (case h_D_is_number => (refine' RB.DefAt.mk' KX G ?h3a ?h3l ?h3c ?h3k (fun _ _ _ _ _ _ us hl => match us, hl with | [_], _ => rfl); (case h3a => k_is); (case h3l => k_is); (case h3c => k_is); (case h3k => k_is)))
      (case h_D_l_whole => (refine' RB.DefAt.mk' KX G ?h4a ?h4l ?h4c ?h4k (fun _ _ _ _ _ _ us hl => match us, hl with | [_], _ => rfl); (case h4a => k_is); (case h4l => k_is); (case h4c => k_is); (case h4k => k_is)))
      (case h_D_l_cell_at => (refine' RB.DefAt.mk' KX G ?h5a ?h5l ?h5c ?h5k (fun _ _ _ _ _ _ us hl => match us, hl with | [_, _], _ => rfl); (case h5a => k_is); (case h5l => k_is); (case h5c => k_is); (case h5k => k_is)))
      (case h_D_l_word_by => (refine' RB.DefAt.mk' KX G ?h6a ?h6l ?h6c ?h6k (fun _ _ _ _ _ _ us hl => match us, hl with | [_], _ => rfl); (case h6a => k_is); (case h6l => k_is); (case h6c => k_is); (case h6k => k_is)))
      (case h_D_l_count => (refine' RB.DefAt.mk' KX G ?h7a ?h7l ?h7c ?h7k (fun _ _ _ _ _ _ us hl => match us, hl with | [_], _ => rfl); (case h7a => k_is); (case h7l => k_is); (case h7c => k_is); (case h7k => k_is)))
      (case h_D_l_figures_by => (refine' RB.DefAt.mk' KX G ?h8a ?h8l ?h8c ?h8k (fun _ _ _ _ _ _ us hl => match us, hl with | [_, _], _ => rfl); (case h8a => k_is); (case h8l => k_is); (case h8c => k_is); (case h8k => k_is)))
      (case h_D_l_signs => (refine' RB.DefAt.mk' KX G ?h9a ?h9l ?h9c ?h9k (fun _ _ _ _ _ _ us hl => match us, hl with | [], _ => rfl); (case h9a => k_is); (case h9l => k_is); (case h9c => k_is); (case h9k => k_is)))
      (case h_D_l_number_of => (refine' RB.DefAt.mk' KX G ?h10a ?h10l ?h10c ?h10k (fun _ _ _ _ _ _ us hl => match us, hl with | [_], _ => rfl); (case h10a => k_is); (case h10l => k_is); (case h10c => k_is); (case h10k => k_is)))
      (case h_D_l_deed_of => (refine' RB.DefAt.mk' KX G ?h11a ?h11l ?h11c ?h11k (fun _ _ _ _ _ _ us hl => match us, hl with | [_], _ => rfl); (case h11a => k_is); (case h11l => k_is); (case h11c => k_is); (case h11k => k_is)))
      (case h_D_l_refused_by_any => (refine' RB.DefAt.mk' KX G ?h12a ?h12l ?h12c ?h12k (fun _ _ _ _ _ _ us hl => match us, hl with | [_], _ => rfl); (case h12a => k_is); (case h12l => k_is); (case h12c => k_is); (case h12k => k_is)))
      (case h_x_NoDeed => (refine' RB.ExcAt.mk' KX G ?h13a ?h13q ?h13k ?h13b ?h13t; (case h13a => k_is); (case h13q => k_exc); (case h13k => k_is); (case h13b => k_is); (case h13t => k_is)))
      (case h_x_BookError => (refine' RB.ExcAt.mk' KX G ?h14a ?h14q ?h14k ?h14b ?h14t; (case h14a => k_is); (case h14q => k_exc); (case h14k => k_is); (case h14b => k_is); (case h14t => k_is)))
      (case h_x_TooMany => (refine' RB.ExcAt.mk' KX G ?h15a ?h15q ?h15k ?h15b ?h15t; (case h15a => k_is); (case h15q => k_exc); (case h15k => k_is); (case h15b => k_is); (case h15t => k_is)))
      (case h_x_OutOfRow => (refine' RB.ExcAt.mk' KX G ?h16a ?h16q ?h16k ?h16b ?h16t; (case h16a => k_is); (case h16q => k_exc); (case h16k => k_is); (case h16b => k_is); (case h16t => k_is)))
      (case h_x_Nothing => (refine' RB.ExcAt.mk' KX G ?h17a ?h17q ?h17k ?h17b ?h17t; (case h17a => k_is); (case h17q => k_exc); (case h17k => k_is); (case h17b => k_is); (case h17t => k_is)))
      (case h_x_NoRow => (refine' RB.ExcAt.mk' KX G ?h18a ?h18q ?h18k ?h18b ?h18t; (case h18a => k_is); (case h18q => k_exc); (case h18k => k_is); (case h18b => k_is); (case h18t => k_is)))
      (case h_e_NoDeed => (refine' ⟨?h19a, ?h19b, ?h19c, ?h19d, ?h19e, ?h19f, ?h19g, ?h19h⟩; (case h19a => k_is); (case h19b => k_is); (case h19c => k_is); (case h19d => k_is); (case h19e => k_is); (case h19f => k_is); (case h19g => k_is); (case h19h => k_is)))
      (case h_v_NoDeed_NoDeed => (refine' PySem.W.exm_ref ?h20a ?h20b ?h20c ?h20d; (case h20a => k_is); (case h20b => k_is); (case h20c => k_is); (case h20d => first | rfl | k_is)))
      (case h_v_NoDeed_BookError => (refine' PySem.W.exm_ref ?h21a ?h21b ?h21c ?h21d; (case h21a => k_is); (case h21b => k_is); (case h21c => k_is); (case h21d => first | rfl | k_is)))
      (case h_kv_NoDeed_NoRow => (kit_is))
      (case h_kv_NoDeed_Nothing => (kit_is))
      (case h_kv_NoDeed_OutOfRow => (kit_is))
      (case h_kv_NoDeed_TooMany => (kit_is))
      (case h_kv_NoDeed_ValueError => (kit_is))
      (case h_tc_FIGURES => (refine' ⟨_, (PySem.W.mg_of KX G ?h27a).trans ?h27b⟩; (case h27a => k_is); (case h27b => rfl)))
      (case h_dm_HOW_MANY => (refine' PySem.W.mg_of KX G ?h28a; (case h28a => k_is)))
      (case h_dk_HOW_MANY => (refine' ⟨?h29a, ?h29b, ?h29c⟩; (case h29a => k_is); (case h29b => exact ⟨⟨_, _, rfl, rfl⟩, ⟨_, _, rfl, rfl⟩, ⟨_, _, rfl, rfl⟩, ⟨_, _, rfl, rfl⟩, ⟨_, _, rfl, rfl⟩, ⟨_, _, rfl, rfl⟩, ⟨_, _, rfl, rfl⟩, ⟨_, _, rfl, rfl⟩, trivial⟩); (case h29c => first | rfl | decide +kernel)))
      (case h_MM_HOW_MANY => (refine' RB.Many.mk' ?h30a ?h30b; (case h30a => k_is); (case h30b => exact ⟨⟨_, _, rfl, rfl⟩, ⟨_, _, rfl, rfl⟩, ⟨_, _, rfl, rfl⟩, ⟨_, _, rfl, rfl⟩, ⟨_, _, rfl, rfl⟩, ⟨_, _, rfl, rfl⟩, ⟨_, _, rfl, rfl⟩, ⟨_, _, rfl, rfl⟩, trivial⟩)))
      (case h_z_str => (refine' PySem.W.mg_none_of KX G ?h31a; (case h31a => k_is)))
      (case h_z_len => (refine' PySem.W.mg_none_of KX G ?h32a; (case h32a => k_is)))
      (case h_z_int => (refine' PySem.W.mg_none_of KX G ?h33a; (case h33a => k_is)))
      (case h_z_any => (refine' PySem.W.mg_none_of KX G ?h34a; (case h34a => k_is)))
      (case h_z_isinstance => (refine' PySem.W.mg_none_of KX G ?h35a; (case h35a => k_is)))
      (case h_z_bool => (refine' PySem.W.mg_none_of KX G ?h36a; (case h36a => k_is)))
      (case h_z_range => (refine' PySem.W.mg_none_of KX G ?h37a; (case h37a => k_is)))
      (case h_z_tuple => (refine' PySem.W.mg_none_of KX G ?h38a; (case h38a => k_is)))
      (case h_z_ValueError => (refine' PySem.W.mg_none_of KX G ?h39a; (case h39a => k_is)))
      (case h_z_max => (refine' PySem.W.mg_none_of KX G ?h40a; (case h40a => k_is)))
