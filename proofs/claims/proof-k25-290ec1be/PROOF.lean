import PyProof.Rows.All
import Wide.All
import OpenK.AllK
import Wide.FinOn
import HandS.ForMost
import HandS.Wide
import HandS.Gcd
import HandS.IsInst
import HandS.Defaults
import HandS.MakeKwOnly
import HandS.Exc
import HandS.TryOnly
import HandS.ExcOwn
import HandS.WordsExc
import HandS.ExcInit
import HandS.ExcField
import HandS.Style
import HandS.HotCalls
import HandS.ExcCtx
import HandS.ExcIs
import HandS.StrMore
import HandS.FStr
import HandS.More
import HandS.Steps
import HandS.Style
import HandS.Iter
import KE.IntTextLaws
import PyProof.Rows.RegStrFacts
import HandS.Nested
import HandS.EndTab
import HandS.HeadHook4
import HandS.MakeKw
import HandS.Small
import PyProof.RowDictHeap
import HandS.HeadWalk
import HandS.Dict
import HandS.Walk
import KE.GoesMore
import KE.GoesZip
import KE.GoesEnum
import HandS.Star
import HandS.TupAny
import KE.KMathG
import HandS.Gcd
import KE.KRevSl
import HandS.List
import HandS.SortInts
import PySem.Challenge.RW_hintedpoints_k25_first_two_that_cross
set_option Elab.async false
set_option linter.all false
set_option maxRecDepth 100000
set_option maxHeartbeats 4000000
namespace HP
open PySem PySem.Spec PyProof.Rows L2

/-! ### a def that can be called -/
def spN (n : Nat) (sp : Sp) : Sp := fun vs H Q E => vs.length = n ∧ sp vs H Q E
structure Cal (P : Program) (w : World) (K : PySem.W.Frag) (mg : Str → Option Value) (base : Heap) (k : Nat) (x : Str) (ps : List Str) (sp : Sp) : Prop where
  ex : ∃ (f : Addr) (fd : FuncData), FnOk P w K mg base CX0 k f fd ps (spN ps.length sp) ∧ mg x = some (.ref f) ∧ PySem.W.keepIn K (.ref f) = true ∧ Binds K fd ps []
section
variable {P : Program} {w : World} {K : PySem.W.Frag} {mg : Str → Option Value} {base : Heap}
theorem fnN {x : Str} {st : Stmt} {f : Addr} {fd : FuncData} {N ps : List Str} {k : Nat} {sp : Sp} (F : Fun K x x st f fd) (S : FnScope N ps (defScope st))
    (hbody : ∀ (cdv : Value) (A : Around) (outer : List Env) (s : Shared) (H : Hp) (vs : List V) (Q : VK) (E : XK), Room k (A.deeper (envOfC x (defScope st) s.heap.objs.size f cdv)) → sp vs H Q E →
      ∃ t, PSs (cxOf CX0 P w K mg base N x (defScope st) f cdv A outer s H E).nox (defBody st) t ∧ t { nx := fun _ H' => Q .non H', rt := Q } (start N vs) H) : FnOk P w K mg base CX0 (k + 1) f fd ps (spN ps.length sp) :=
  F.ok S (fun _ _ _ _ h => h.1) (fun cdv A outer s H vs Q E hr h => hbody cdv A outer s H vs Q E hr h.2)
theorem fnD {x : Str} {st : Stmt} {dvs : List V} {kws : List (Str × V)} {f : Addr} {fd : FuncData} {N ps : List Str} {k : Nat} {sp : Sp} (F : FunD K x x (defArgs st) (defBody st) (defScope st) dvs kws f fd) (S : FnScope N ps (defScope st))
    (hbody : ∀ (cdv : Value) (A : Around) (outer : List Env) (s : Shared) (H : Hp) (vs : List V) (Q : VK) (E : XK), Room k (A.deeper (envOfC x (defScope st) s.heap.objs.size f cdv)) → sp vs H Q E →
      ∃ t, PSs (cxOf CX0 P w K mg base N x (defScope st) f cdv A outer s H E).nox (defBody st) t ∧ t { nx := fun _ H' => Q .non H', rt := Q } (start N vs) H) : FnOk P w K mg base CX0 (k + 1) f fd ps (spN ps.length sp) :=
  F.ok S (fun _ _ _ _ h => h.1) (fun cdv A outer s H vs Q E hr h => by
    obtain ⟨t, h1, h2⟩ := hbody cdv A outer s H vs Q E hr h.2
    exact ⟨t, h1.nox, h2⟩)
theorem calN {x : Str} {st : Stmt} {f : Addr} {fd : FuncData} {ps : List Str} {k : Nat} {sp : Sp} (n : FnOk P w K mg base CX0 k f fd ps (spN ps.length sp)) (g : mg x = some (.ref f)) (F : Fun K x x st f fd)
    (b : ∀ (kV doc pm : Value) (an : Option Addr) (cdv ct : Value) (us : List Value), us.length = ps.length → bindArgs (PySem.W.fnOf x x (defArgs st) (defBody st) (defScope st) .none kV doc pm an cdv ct) ⟨us, []⟩ = pure (ps.zip us)) : Cal P w K mg base k x ps sp :=
  ⟨f, fd, n, g, F.kp, F.binds b⟩
/-! .. by keywords: perm tells where each parameter stands among the positional values, the lacking ones' defaults, the keywords' values -/
def pick {α : Type} : List Nat → List α → List α
  | [], _ => []
  | i :: l, xs => match xs[i]? with
    | some x => x :: pick l xs
    | none => pick l xs
theorem vals_get : ∀ {vs : List V} {us : List Value}, Vals vs us → ∀ i : Nat, (vs[i]? = none ∧ us[i]? = none) ∨ ∃ v u, vs[i]? = some v ∧ us[i]? = some u ∧ RelV v u
  | [], _, .nil, i => .inl ⟨by simp, by simp⟩
  | v :: vs, _, .cons r _, 0 => .inr ⟨v, _, rfl, rfl, r⟩
  | v :: vs, _, .cons _ t, i + 1 => by
    have := vals_get t i
    simpa using this
theorem pick_vals {vs : List V} {us : List Value} (r : Vals vs us) : ∀ l : List Nat, Vals (pick l vs) (pick l us)
  | [] => .nil
  | i :: l => by
    unfold pick
    rcases vals_get r i with ⟨h1, h2⟩ | ⟨v, u, h1, h2, h3⟩
    · rw [h1, h2]
      exact pick_vals r l
    · rw [h1, h2]
      exact .cons h3 (pick_vals r l)
structure CalK (P : Program) (w : World) (K : PySem.W.Frag) (mg : Str → Option Value) (base : Heap) (k : Nat) (x : Str) (ps : List Str) (sp : Sp) (n : Nat) (ks : List Str) (dvs : List V) (perm : List Nat) : Prop where
  ex : ∃ (f : Addr) (fd : FuncData) (mv : List Value), FnOk P w K mg base CX0 k f fd ps (spN ps.length sp) ∧ mg x = some (.ref f) ∧ PySem.W.keepIn K (.ref f) = true ∧ KBn K fd ps n ks (fun us ws => pick perm (us ++ (mv ++ ws))) (fun vs zs => pick perm (vs ++ (dvs ++ zs)))
theorem calK {x : Str} {st : Stmt} {f : Addr} {fd : FuncData} {ps : List Str} {k : Nat} {sp : Sp} (n : FnOk P w K mg base CX0 k f fd ps (spN ps.length sp)) (g : mg x = some (.ref f)) (F : Fun K x x st f fd) (m : Nat) (ks : List Str) (perm : List Nat)
    (b : ∀ (kV doc pm : Value) (an : Option Addr) (cdv ct : Value) (us ws : List Value), us.length = m → ws.length = ks.length → bindArgs (PySem.W.fnOf x x (defArgs st) (defBody st) (defScope st) .none kV doc pm an cdv ct) ⟨us, ks.zip ws⟩ = pure (ps.zip (pick perm (us ++ ws)))) : CalK P w K mg base k x ps sp m ks [] perm := by
  obtain ⟨oc, od, kV, doc, pm, an, cdv, ct, osl, rfl, lk, hcd⟩ := F.ex
  exact ⟨f, _, [], n, g, F.kp, ⟨fun s us ws _ l1 l2 => .of_eq (b kV doc pm an cdv ct us ws l1 l2), fun r1 r2 => pick_vals (r1.append r2) perm⟩⟩
theorem calKD {x : Str} {st : Stmt} {kws : List (Str × V)} {f : Addr} {fd : FuncData} {ps : List Str} {k : Nat} {sp : Sp} (n : FnOk P w K mg base CX0 k f fd ps (spN ps.length sp)) (g : mg x = some (.ref f)) (F : FunD K x x (defArgs st) (defBody st) (defScope st) [] kws f fd) (m : Nat) (ks : List Str) (ms : List (Str × V)) (perm : List Nat)
    (hk : kws ≠ []) (hms : ∀ q ∈ ms, q ∈ kws)
    (b : ∀ (D : Addr) (doc pm : Value) (an : Option Addr) (cdv ct : Value) (us mv ws : List Value), us.length = m → mv.length = ms.length → ws.length = ks.length →
      KwChain D ((ms.map (·.1)).zip mv) (bindArgs (PySem.W.fnOf x x (defArgs st) (defBody st) (defScope st) .none (.ref D) doc pm an cdv ct) ⟨us, ks.zip ws⟩) (ps.zip (pick perm (us ++ (mv ++ ws))))) : CalK P w K mg base k x ps sp m ks (ms.map (·.2)) perm := by
  obtain ⟨mv, hb⟩ := F.kbinds0 m ks ms (fun {α} us mv ws => pick perm (us ++ (mv ++ ws))) hk hms (fun r1 r2 r3 => pick_vals (r1.append (r2.append r3)) perm) b
  exact ⟨f, fd, mv, n, g, F.kp, hb⟩
end
def tCal (n : Nat) (sp : Sp) (t : TA) : TE := fun σ H Q => t σ H fun vs H1 => vs.length = n ∧ sp vs H1 Q E0
section
variable {X : Cx} {k j : Nat} {x : Str} {ps : List Str} {sp : Sp} {p pos : Pos} {e : Expr} {es : List Expr} {t : TA}
theorem pe_cal (C : Cal X.prog X.w X.K X.mg X.base k x ps sp) (hr : Room j X.A) (hkj : k ≤ j) (hg : Gl X x) (ha : PA X (e :: es) t) (hdb : (x == ("__debug__" : Str)) = false := by decide)
    (he : starEach (e :: es) X.env = (false, eval e X.env) :: starEach es X.env := by rfl) (hpl : (backTo pos (starEach es X.env)).any (·.1) = false := by rfl) : PE X (.Call (.Name x p) (e :: es) [] pos) (tCal ps.length sp t) := by
  obtain ⟨f, fd, F, hm, hk, hb⟩ := C.ex
  have q := pe_call F (hr.mono hkj) hg hm hk hb .nil pass0 ha hdb he hpl (p := p)
  refine ⟨fun pins s σ H Q I h => q.run pins s σ H Q I ?_⟩
  have e1 : (fun (vs : List V) (H1 : Hp) => vs.length = ps.length ∧ sp vs H1 Q E0) = fun vs H1 => spN ps.length sp (vs ++ []) H1 Q E0 := by
    funext vs H1
    rw [List.append_nil]
    rfl
  show t σ H fun vs H1 => spN ps.length sp (vs ++ []) H1 Q E0
  rw [← e1]
  exact h
def tCalK (n m np : Nat) (sp : Sp) (dvs : List V) (perm : List Nat) (t tk : TA) : TE := fun σ H Q => t σ H fun vs H1 => tk σ H1 fun zs H2 => vs.length = n ∧ zs.length = m ∧ (pick perm (vs ++ (dvs ++ zs))).length = np ∧ sp (pick perm (vs ++ (dvs ++ zs))) H2 Q E0
variable {n : Nat} {ks : List Str} {dvs : List V} {perm : List Nat} {kws : List Keyword} {tk : TA}
theorem pe_calK (C : CalK X.prog X.w X.K X.mg X.base k x ps sp n ks dvs perm) (hr : Room j X.A) (hkj : k ≤ j) (hg : Gl X x) (ha : PA X (e :: es) t) (hkw : PK X kws tk) (hall : (backToKw pos (keywordEach kws X.env)).all (·.1.isSome) = true := by rfl) (hks : (backToKw pos (keywordEach kws X.env)).filterMap (·.1) = ks := by rfl)
    (hdb : (x == ("__debug__" : Str)) = false := by decide) (he : starEach (e :: es) X.env = (false, eval e X.env) :: starEach es X.env := by rfl)
    (hpl : ((backTo pos (starEach (e :: es) X.env)).any (·.1) || (backToKw pos (keywordEach kws X.env)).any (·.1.isNone)) = false := by rfl) : PE X (.Call (.Name x p) (e :: es) kws pos) (tCalK n ks.length ps.length sp dvs perm t tk) := by
  obtain ⟨f, fd, mv, F, hm, hk, hb⟩ := C.ex
  exact pe_callN F (hr.mono hkj) hg hm hk hb pass0 ha hkw hall hks hdb he hpl (p := p)
theorem pe_calK0 (C : CalK X.prog X.w X.K X.mg X.base k x ps sp 0 ks dvs perm) (hr : Room j X.A) (hkj : k ≤ j) (hg : Gl X x) (hkw : PK X kws tk) (hall : (backToKw pos (keywordEach kws X.env)).all (·.1.isSome) = true := by rfl) (hks : (backToKw pos (keywordEach kws X.env)).filterMap (·.1) = ks := by rfl)
    (hdb : (x == ("__debug__" : Str)) = false := by decide) (hpl : ((backTo pos (starEach [] X.env)).any (·.1) || (backToKw pos (keywordEach kws X.env)).any (·.1.isNone)) = false := by rfl) : PE X (.Call (.Name x p) [] kws pos) (tCalK 0 ks.length ps.length sp dvs perm tNil tk) := by
  obtain ⟨f, fd, mv, F, hm, hk, hb⟩ := C.ex
  refine ⟨fun pins s σ H Q I h => ?_⟩
  refine wpAny_Call_Name_kw (ld_glob I hg hm ?_ hdb)
  refine PySem.W.callWith_KW0 (h₀ := X.base) I.ok.mod.kin hk hall ?_ hpl
  refine thn (hkw.run pos pins s σ H _ I h) fun ws s2 ⟨zs, H2, I2, rz, l1, l2, q2⟩ => ⟨I2.kIn, ?_⟩
  rw [hks]
  exact run_fnN (us := []) (vs := []) F (hr.mono hkj) hb pass0 I2 .nil rz rfl l2 q2
end

/-! ### heaps -/
theorem Same.up {H : Hp} {p : Addr} {o : HO} (h : H p = none) : Same H (upd H p o) := fun b x e => by
  rw [upd_ne (ne_of_none e h)]
  exact e
def Go (bx : Addr) (H H' : Hp) : Prop := ∀ b o, H b = some o → b ≠ bx → H' b = some o
theorem Go.refl {bx : Addr} (H : Hp) : Go bx H H := fun _ _ h _ => h
theorem Go.trans {bx : Addr} {H H1 H2 : Hp} (a : Go bx H H1) (b : Go bx H1 H2) : Go bx H H2 := fun c o h n => b c o (a c o h n) n
theorem Go.of {bx : Addr} {H H' : Hp} (s : Same H H') : Go bx H H' := fun b o h _ => s b o h
theorem Go.set {bx : Addr} {H : Hp} {o : HO} : Go bx H (upd H bx o) := fun b x e n => by
  rw [upd_ne n]
  exact e
theorem Same.fr {H H' : Hp} (s : Same H H') {p : Addr} (h : H' p = none) : H p = none := s.free h

/-! ### bounds -/
structure Bt (n : Nat) (x : Int) : Prop where
  lt : x.natAbs < 2 ^ n
theorem Bt.mono {n m : Nat} {x : Int} (h : Bt n x) (hm : n ≤ m) : Bt m x := ⟨Nat.lt_of_lt_of_le h.lt (Nat.pow_le_pow_right (by decide) hm)⟩
theorem Bt.le {n : Nat} {x y : Int} (h : Bt n y) (l : x.natAbs ≤ y.natAbs) : Bt n x := ⟨Nat.lt_of_le_of_lt l h.lt⟩
theorem Bt.mul {n m : Nat} {x y : Int} (h : Bt n x) (k : Bt m y) : Bt (n + m) (x * y) := ⟨wide_lt h.lt k.lt⟩
theorem Bt.add {n m : Nat} {x y : Int} (h : Bt n x) (k : Bt m y) : Bt (n + m + 1) (x + y) := ⟨by
  have h1 := (h.mono (Nat.le_add_right n m)).lt
  have h2 := (k.mono (Nat.le_add_left m n)).lt
  rw [Nat.pow_succ]
  generalize 2 ^ (n + m) = z at h1 h2 ⊢
  omega⟩
theorem Bt.neg {n : Nat} {x : Int} (h : Bt n x) : Bt n (-x) := ⟨by rw [Int.natAbs_neg]; exact h.lt⟩
theorem Bt.sub {n m : Nat} {x y : Int} (h : Bt n x) (k : Bt m y) : Bt (n + m + 1) (x - y) := by
  rw [Int.sub_eq_add_neg]
  exact h.add k.neg
theorem Bt.small {x : Int} (h : -9223372036854775808 < x) (h' : x < 9223372036854775808) : Bt 63 x := ⟨by
  have e : (2 : Nat) ^ 63 = 9223372036854775808 := by decide
  rw [e]
  omega⟩
theorem Bt.log {n : Nat} {x : Int} (h : Bt n x) : x.natAbs.log2 < n + 1 := PySem.Flt.log2_lt_of (Nat.succ_pos n) (h.mono (Nat.le_succ n)).lt
theorem mulW {n m : Nat} {i j : Int} (h : Bt n i) (k : Bt m j) (l : n + m ≤ 900000) : CMulW i j := by
  have := h.log
  have := k.log
  unfold CMulW
  omega
/-- // by any divisor but 0, below 2 ^ 8900 -/
def CDivA (_ j : Int) : Prop := j ≠ 0 ∧ j.natAbs.log2 < 9000
theorem divA {n : Nat} {i j : Int} (h : j ≠ 0) (k : Bt n j) (l : n ≤ 8900) : CDivA i j := ⟨h, by have := k.log; omega⟩
section
variable {X : Cx}
theorem op_fdivA : OpR X (binaryOp .FloorDiv) (rI CDivA fun i j => .int (i.fdiv j)) := opI fun _ _ _ _ _ _ _ hc q => floordiv_int hc.1 q (.inl (PyProof.noPylong_of_log2 hc.2))
def rLenK (K : PySem.W.Frag) : List V → Hp → VK → Prop := fun xs H Q => ∃ x n, xs = [x] ∧ LenV K x H n ∧ Q (.int n) H
theorem call_lenK : CallR X (.builtin "len") (rLenK X.K) := call_len
def rAbs : List V → Hp → VK → Prop := fun xs H Q => ∃ i, xs = [.int i] ∧ Q (.int (if i < 0 then -i else i)) H
theorem call_absK : CallR X (.builtin "abs") rAbs := call_abs
def rMax : List V → Hp → VK → Prop := fun xs H Q => ∃ i j, xs = [.int i, .int j] ∧ Q (.int (if j > i then j else i)) H
theorem call_maxK (hc : X.calm = true) : CallR X (.builtin "max") rMax := call_max2 hc
def rMin : List V → Hp → VK → Prop := fun xs H Q => ∃ i j, xs = [.int i, .int j] ∧ Q (.int (if j < i then j else i)) H
theorem call_minK (hc : X.calm = true) : CallR X (.builtin "min") rMin := call_min2 hc
def rInt : List V → Hp → VK → Prop := fun xs H Q => (∃ i, xs = [.int i] ∧ Q (.int i) H) ∨ ∃ k, xs = [.bl k] ∧ Q (.int (if k then 1 else 0)) H
theorem call_intK : CallR X (.type "int") rInt := call_int1
theorem op_eqI : OpR X (compareOp .Eq) (rI0 fun i j => .bl (decide (i = j))) := fun pins s σ H x y v u Q I rx ry h => by
  obtain ⟨i, j, rfl, rfl, q⟩ := h
  refine op_eq pins s σ H _ _ v u Q I rx ry ⟨rfl, ?_⟩
  have e : decide (V.int i = V.int j) = decide (i = j) := by
    by_cases z : i = j
    · rw [decide_eq_true z, decide_eq_true (congrArg V.int z)]
    · rw [decide_eq_false z, decide_eq_false (fun y => z (V.int.inj y))]
  rw [e]
  exact q
theorem op_neI : OpR X (compareOp .NotEq) (rI0 fun i j => .bl (!decide (i = j))) := fun pins s σ H x y v u Q I rx ry h => by
  obtain ⟨i, j, rfl, rfl, q⟩ := h
  refine op_ne pins s σ H _ _ v u Q I rx ry ⟨rfl, ?_⟩
  have e : decide (V.int i = V.int j) = decide (i = j) := by
    by_cases z : i = j
    · rw [decide_eq_true z, decide_eq_true (congrArg V.int z)]
    · rw [decide_eq_false z, decide_eq_false (fun y => z (V.int.inj y))]
  rw [e]
  exact q
end

theorem Bt.abs {n : Nat} {x : Int} (h : Bt n x) : Bt n (if x < 0 then -x else x) := by
  split
  · exact h.neg
  · exact h
theorem fmod_lo (a : Int) {b : Int} (h : 0 < b) : 0 ≤ a.fmod b := by
  rw [Int.fmod_eq_emod_of_nonneg a (Int.le_of_lt h)]
  exact Int.emod_nonneg a (by omega)
theorem fmod_hi (a : Int) {b : Int} (h : 0 < b) : a.fmod b < b := Int.fmod_lt_of_pos a h
theorem Bt.max1 {n : Nat} {x : Int} (h : Bt n x) (hn : 1 ≤ n) : Bt n (if x > 1 then x else 1) := by
  split
  · exact h
  · exact (⟨by decide⟩ : Bt 1 1).mono hn
theorem max1_pos (x : Int) : 0 < (if x > 1 then x else 1) := by
  split <;> omega
theorem abs_abs (x : Int) : (if x < 0 then -x else x).natAbs = x.natAbs := by
  split
  · exact Int.natAbs_neg x
  · rfl
theorem fmod_abs {x y : Int} (hx : 0 ≤ x) (hy : 0 ≤ y) : (x.fmod y).natAbs = x.natAbs % y.natAbs := by
  rw [Int.fmod_eq_emod_of_nonneg x hy]
  obtain ⟨a, rfl⟩ := Int.eq_ofNat_of_zero_le hx
  obtain ⟨b, rfl⟩ := Int.eq_ofNat_of_zero_le hy
  exact Int.natAbs_natCast (a % b)
theorem fdiv_lo {a b : Int} (h : 0 ≤ a) (hb : 0 < b) : 0 ≤ a.fdiv b := by
  rw [Int.fdiv_eq_ediv_of_nonneg a (Int.le_of_lt hb)]
  exact Int.ediv_nonneg h (Int.le_of_lt hb)

/-! ### numbers -/
def cop (t b : Int) : Prop := Nat.gcd t.natAbs b.natAbs = 1
def Num (H : Hp) (v : V) (t b : Int) : Prop := (v = .int t ∧ b = 1) ∨ ∃ a, v = .ref a ∧ H a = some (.tup [.int t, .int b]) ∧ 2 ≤ b ∧ cop t b
theorem Num.pos {H : Hp} {v : V} {t b : Int} (h : Num H v t b) : 0 < b := by
  rcases h with ⟨_, rfl⟩ | ⟨_, _, _, h, _⟩
  · decide
  · omega
theorem Num.cop {H : Hp} {v : V} {t b : Int} (h : Num H v t b) : cop t b := by
  rcases h with ⟨_, rfl⟩ | ⟨_, _, _, _, h⟩
  · exact Nat.gcd_one_right _
  · exact h
theorem Num.same {H H' : Hp} {v : V} {t b : Int} (h : Num H v t b) (s : Same H H') : Num H' v t b := by
  rcases h with h | ⟨a, h1, h2, h3⟩
  · exact .inl h
  · exact .inr ⟨a, h1, s _ _ h2, h3⟩
theorem Num.int {H : Hp} {t : Int} : Num H (.int t) t 1 := .inl ⟨rfl, rfl⟩
/-- t' over b', lowest, of t over b -/
structure Low (t b t' b' : Int) : Prop where
  eq : t' * b = t * b'
  nt : t'.natAbs ≤ t.natAbs
  nb : b'.natAbs ≤ b.natAbs
theorem low_one {t1 b1 t2 b2 : Int} (p1 : 0 < b1) (p2 : 0 < b2) (c1 : HP.cop t1 b1) (c2 : HP.cop t2 b2) (h : t1 * b2 = t2 * b1) : t1 = t2 ∧ b1 = b2 := by
  have hn : t1.natAbs * b2.natAbs = t2.natAbs * b1.natAbs := by
    rw [← Int.natAbs_mul, ← Int.natAbs_mul, h]
  have d1 : b1.natAbs ∣ b2.natAbs := by
    have : b1.natAbs ∣ t1.natAbs * b2.natAbs := ⟨t2.natAbs, by rw [hn, Nat.mul_comm]⟩
    exact Nat.Coprime.dvd_of_dvd_mul_left (Nat.Coprime.symm c1) this
  have d2 : b2.natAbs ∣ b1.natAbs := by
    have : b2.natAbs ∣ t2.natAbs * b1.natAbs := ⟨t1.natAbs, by rw [← hn, Nat.mul_comm]⟩
    exact Nat.Coprime.dvd_of_dvd_mul_left (Nat.Coprime.symm c2) this
  have e := Nat.dvd_antisymm d1 d2
  have eb : b1 = b2 := by omega
  subst eb
  exact ⟨Int.eq_of_mul_eq_mul_right (by omega) h, rfl⟩
theorem Num.one {H H' : Hp} {v v' : V} {t b t' b' : Int} (h : Num H v t b) (h' : Num H' v' t' b') (e : t * b' = t' * b) : t = t' ∧ b = b' := low_one h.pos h'.pos h.cop h'.cop e
/-- the divisor with the base's sign -/
def gsg (t b : Int) : Int := if b < 0 then -((Nat.gcd t.natAbs b.natAbs : Nat) : Int) else ((Nat.gcd t.natAbs b.natAbs : Nat) : Int)
structure Cut (t b s t' b' : Int) : Prop where
  low : Low t b t' b'
  p : 0 < b'
  c : HP.cop t' b'
  ft : t.fdiv s = t'
  fb : b.fdiv s = b'
  one : b = s ↔ b' = 1
  ns : s ≠ 0
  ss : s.natAbs ≤ b.natAbs
theorem fdiv_abs {a b : Int} (h : 0 < b) : (a.fdiv b).natAbs ≤ a.natAbs := by
  rw [Int.fdiv_eq_ediv_of_nonneg a (Int.le_of_lt h)]
  by_cases ha : 0 ≤ a
  · have h1 := Int.ediv_le_self b ha
    have h2 := Int.ediv_nonneg ha (Int.le_of_lt h)
    omega
  · have h1 : a ≤ a / b := (Int.le_ediv_iff_mul_le h).mpr (by
      have := Int.mul_le_mul_of_nonneg_left (show 1 ≤ b by omega) (show 0 ≤ -a by omega)
      rw [Int.neg_mul, Int.neg_mul, Int.mul_one] at this
      omega)
    have h2 := Int.ediv_neg_of_neg_of_pos (show a < 0 by omega) h
    omega
theorem fdiv_mul {a s : Int} (hs : s ≠ 0) : (a * s).fdiv s = a := Int.mul_fdiv_cancel a hs
theorem cut_of {t b : Int} (hb : b ≠ 0) : ∃ t' b', Cut t b (gsg t b) t' b' := by
  have hbn : 0 < b.natAbs := by omega
  have hg : 0 < Nat.gcd t.natAbs b.natAbs := Nat.gcd_pos_of_pos_right _ hbn
  have hgt : ((Nat.gcd t.natAbs b.natAbs : Nat) : Int) ∣ t := Int.ofNat_dvd_left.mpr (Nat.gcd_dvd_left _ _)
  have hgb : ((Nat.gcd t.natAbs b.natAbs : Nat) : Int) ∣ b := Int.ofNat_dvd_left.mpr (Nat.gcd_dvd_right _ _)
  have hcop : Nat.gcd (t.natAbs / Nat.gcd t.natAbs b.natAbs) (b.natAbs / Nat.gcd t.natAbs b.natAbs) = 1 := Nat.coprime_div_gcd_div_gcd hg
  have hle : Nat.gcd t.natAbs b.natAbs ≤ b.natAbs := Nat.gcd_le_right _ hbn
  have hs : gsg t b = ((Nat.gcd t.natAbs b.natAbs : Nat) : Int) ∨ gsg t b = -((Nat.gcd t.natAbs b.natAbs : Nat) : Int) := by
    unfold gsg
    split
    · exact .inr rfl
    · exact .inl rfl
  have hsg : (b < 0 → gsg t b < 0) ∧ (0 < b → 0 < gsg t b) := by
    unfold gsg
    constructor
    · intro h
      rw [if_pos h]
      omega
    · intro h
      rw [if_neg (by omega)]
      omega
  have hsn : (gsg t b).natAbs = Nat.gcd t.natAbs b.natAbs := by
    rcases hs with e | e <;> rw [e]
    · exact Int.natAbs_natCast _
    · rw [Int.natAbs_neg]
      exact Int.natAbs_natCast _
  have hst : gsg t b ∣ t := by
    rcases hs with e | e <;> rw [e]
    · exact hgt
    · exact Int.neg_dvd.mpr hgt
  have hsb : gsg t b ∣ b := by
    rcases hs with e | e <;> rw [e]
    · exact hgb
    · exact Int.neg_dvd.mpr hgb
  generalize gsg t b = s at hs hsg hsn hst hsb
  obtain ⟨t', et⟩ := hst
  obtain ⟨b', eb⟩ := hsb
  have sn : s ≠ 0 := by omega
  have et1 : t = t' * s := by rw [et, Int.mul_comm]
  have eb1 : b = b' * s := by rw [eb, Int.mul_comm]
  have nt : t'.natAbs = t.natAbs / Nat.gcd t.natAbs b.natAbs := by
    have e2 : t.natAbs = t'.natAbs * s.natAbs := by
      have := congrArg Int.natAbs et1
      rw [Int.natAbs_mul] at this
      exact this
    rw [← hsn]
    rw [e2]
    exact (Nat.mul_div_cancel _ (by omega)).symm
  have nb : b'.natAbs = b.natAbs / Nat.gcd t.natAbs b.natAbs := by
    have e2 : b.natAbs = b'.natAbs * s.natAbs := by
      have := congrArg Int.natAbs eb1
      rw [Int.natAbs_mul] at this
      exact this
    rw [← hsn]
    rw [e2]
    exact (Nat.mul_div_cancel _ (by omega)).symm
  have hp : 0 < b' := by
    rcases Int.lt_or_gt_of_ne hb with h | h
    · have h2 := hsg.1 h
      rcases Int.lt_trichotomy b' 0 with z | z | z
      · exfalso
        have := Int.mul_pos_of_neg_of_neg z h2
        omega
      · exfalso
        subst z
        omega
      · exact z
    · have h2 := hsg.2 h
      rcases Int.lt_trichotomy b' 0 with z | z | z
      · exfalso
        have := Int.mul_neg_of_neg_of_pos z h2
        omega
      · exfalso
        subst z
        omega
      · exact z
  refine ⟨t', b', ⟨⟨?_, ?_, ?_⟩, hp, ?_, ?_, ?_, ?_, sn, ?_⟩⟩
  · rw [et1, eb1, Int.mul_assoc, Int.mul_comm s b']
  · rw [nt]
    exact Nat.div_le_self _ _
  · rw [nb]
    exact Nat.div_le_self _ _
  · unfold HP.cop
    rw [nt, nb]
    exact hcop
  · rw [et1]
    exact fdiv_mul sn
  · rw [eb1]
    exact fdiv_mul sn
  · constructor
    · intro e
      rw [e] at eb1
      have : 1 * s = b' * s := by rw [Int.one_mul]; exact eb1
      exact (Int.eq_of_mul_eq_mul_right sn this).symm
    · intro e
      rw [e, Int.one_mul] at eb1
      exact eb1
  · omega

/-! ### the box of a law -/
def Box (H : Hp) (bx : Addr) (n : Int) : Prop := ∃ a b c, H bx = some (.lst [.int a, .int b, .int c]) ∧ 0 ≤ a ∧ 0 ≤ b ∧ b < 2147483629 ∧ 0 ≤ c ∧ c ≤ n
theorem Box.same {H H' : Hp} {bx : Addr} {n : Int} (h : Box H bx n) (s : Same H H') : Box H' bx n := by
  obtain ⟨a, b, c, h1, h2⟩ := h
  exact ⟨a, b, c, s _ _ h1, h2⟩
theorem Box.mono {H : Hp} {bx : Addr} {n m : Int} (h : Box H bx n) (l : n ≤ m) : Box H bx m := by
  obtain ⟨a, b, c, h1, h2, h3, h4, h5, h6⟩ := h
  exact ⟨a, b, c, h1, h2, h3, h4, h5, by omega⟩
theorem Box.ne {H : Hp} {bx a : Addr} {n : Int} {xs : List V} (h : Box H bx n) (e : H a = some (.tup xs)) : a ≠ bx := by
  obtain ⟨_, _, _, h1, _⟩ := h
  exact ne_of e h1 (by intro z; cases z)
theorem Box.fresh {H : Hp} {bx p : Addr} {n : Int} (h : Box H bx n) (np : H p = none) : p ≠ bx := fun z => by
  obtain ⟨_, _, _, h, _⟩ := h
  rw [← z, np] at h
  cases h
theorem Num.go {H H' : Hp} {v : V} {t b n : Int} {bx : Addr} (h : Num H v t b) (B : Box H bx n) (s : Go bx H H') : Num H' v t b := by
  rcases h with h | ⟨a, h1, h2, h3⟩
  · exact .inl h
  · exact .inr ⟨a, h1, s _ _ h2 (B.ne h2), h3⟩

/-! ### readings, step by step -/
section
variable {σ : L2.St} {H : Hp} {Q : VK} {v x y : V} {i : Nat} {ta tb te : TE} {K : PySem.W.Frag}
theorem q_var (h : σ[i]? = some (some v)) (q : Q v H) : tVar i σ H Q := ⟨v, h, q⟩
theorem q_c (q : Q v H) : tC v σ H Q := q
theorem q_op {r : R2} (q : ta σ H fun x H1 => tb σ H1 fun y H2 => r x y H2 Q) : tOp r ta tb σ H Q := q
theorem q_un {r : V → Hp → VK → Prop} (q : ta σ H fun x H1 => r x H1 Q) : tUn r ta σ H Q := q
theorem q_I0 {g : Int → Int → V} {a b : Int} (q : Q (g a b) H) : rI0 g (.int a) (.int b) H Q := ⟨a, b, rfl, rfl, q⟩
theorem q_I {C : Int → Int → Prop} {g : Int → Int → V} {a b : Int} (c : C a b) (q : Q (g a b) H) : rI C g (.int a) (.int b) H Q := ⟨a, b, rfl, rfl, c, q⟩
theorem q_U {g : Int → V} {a : Int} (q : Q (g a) H) : rU g (.int a) H Q := ⟨a, rfl, q⟩
theorem q_test {R : Bool → Hp → Prop} (q : te σ H fun x H' => ∃ k, x = .bl k ∧ R k H') : tTest te σ H R := q
theorem q_B {R : Bool → Hp → Prop} (q : te σ H fun x H' => ∃ k, x = .bl k ∧ R k H') : tB te σ H R := q
theorem q_bl {k : Bool} {R : Bool → Prop} (q : R k) : ∃ k', (V.bl k = .bl k') ∧ R k' := ⟨k, rfl, q⟩
theorem q_not {t : TT} {R : Bool → Hp → Prop} (q : t σ H fun c H1 => R (!c) H1) : tNot t σ H R := q
theorem q_and {t u : TT} {R : Bool → Hp → Prop} (q : t σ H fun c H1 => if c = true then u σ H1 R else R false H1) : tAnd t u σ H R := q
theorem q_or {t u : TT} {R : Bool → Hp → Prop} (q : t σ H fun c H1 => if c = true then R true H1 else u σ H1 R) : tOr t u σ H R := q
theorem q_andV (q : ta σ H fun x H1 => ∃ c, x = .bl c ∧ if c = true then tb σ H1 Q else Q (.bl false) H1) : tAndV ta tb σ H Q := q
theorem q_orV (q : ta σ H fun x H1 => ∃ c, x = .bl c ∧ if c = true then Q (.bl true) H1 else tb σ H1 Q) : tOrV ta tb σ H Q := q
theorem q_notV (q : ta σ H fun x H1 => ∃ c, x = .bl c ∧ Q (.bl (!c)) H1) : tNotV ta σ H Q := q
theorem q_ifE {t : TT} (q : t σ H fun c H1 => if c = true then ta σ H1 Q else tb σ H1 Q) : tIf t ta tb σ H Q := q
theorem q_call {n : Nat} {sp : Sp} {t : TA} (q : t σ H fun vs H1 => vs.length = n ∧ sp vs H1 Q E0) : tCal n sp t σ H Q := q
theorem q_callK {n m np : Nat} {sp : Sp} {dvs : List V} {perm : List Nat} {t tk : TA} (q : t σ H fun vs H1 => tk σ H1 fun zs H2 => vs.length = n ∧ zs.length = m ∧ (pick perm (vs ++ (dvs ++ zs))).length = np ∧ sp (pick perm (vs ++ (dvs ++ zs))) H2 Q E0) : tCalK n m np sp dvs perm t tk σ H Q := q
theorem q_len {n : Nat} {vs : List V} {A : Prop} (h : vs.length = n) (q : A) : vs.length = n ∧ A := ⟨h, q⟩
theorem q_cb {r : List V → Hp → VK → Prop} {t : TA} (q : t σ H fun vs H1 => r vs H1 Q) : tCB r t σ H Q := q
theorem q_cons {t : TA} {R : List V → Hp → Prop} (q : te σ H fun x H1 => t σ H1 fun xs H2 => R (x :: xs) H2) : tCons te t σ H R := q
theorem q_nil {R : List V → Hp → Prop} (q : R [] H) : tNil σ H R := q
theorem q_tup {t : TA} (q : t σ H fun xs H1 => xs.length ≤ sizeLine ∧ ∀ p, H1 p = none → Q (.ref p) (upd H1 p (.tup xs))) : tTup t σ H Q := q
theorem q_lst {t : TA} (q : t σ H fun xs H1 => xs.length ≤ sizeLine ∧ ∀ p, H1 p = none → Q (.ref p) (upd H1 p (.lst xs))) : tLst t σ H Q := q
theorem q_disp {xs : List V} {A : Prop} (h : Nat.ble xs.length 1000 = true) (q : A) : xs.length ≤ sizeLine ∧ A := ⟨Nat.le_of_lt (small1000 (Nat.le_of_ble_eq_true h)), q⟩
theorem q_ntT {A B : Prop} (h : B) : if (!true) = true then A else B := h
theorem q_ntF {A B : Prop} (h : A) : if (!false) = true then A else B := h
theorem q_lenT {a : Addr} {xs : List V} (h : SqT K H a xs) (q : Q (.int xs.length) H) : rLenK K [.ref a] H Q := ⟨_, _, rfl, .inr ⟨xs, h, rfl⟩, q⟩
theorem q_lenL {a : Addr} {xs : List V} (h : SqL K H a xs) (q : Q (.int xs.length) H) : rLenK K [.ref a] H Q := ⟨_, _, rfl, .inl ⟨xs, h, rfl⟩, q⟩
variable {D : Ends} {t1 t2 : TS}
theorem q_seq (q : t1 { D with nx := t2 D } σ H) : tSeq t1 t2 D σ H := q
theorem q_asg {g : TG} (q : te σ H fun x H1 => g x σ H1 D.nx) : tAsg te g D σ H := q
theorem q_name {R : L2.St → Hp → Prop} (q : R (σ.set i (some v)) H) : gName i v σ H R := q
theorem q_if {t : TT} (q : t σ H fun b H1 => if b = true then t1 D σ H1 else t2 D σ H1) : tIfS t t1 t2 D σ H := q
theorem q_ret (q : te σ H D.rt) : tRet te D σ H := q
theorem q_drop (q : te σ H fun _ H1 => D.nx σ H1) : tDrop te D σ H := q
theorem q_next (q : D.nx σ H) : tNext D σ H := q
theorem q_cont (q : D.ct σ H) : tCont D σ H := q
theorem q_brk (q : D.bk σ H) : tBreak D σ H := q
theorem q_par {a b : Nat} {t : TA} (q : t σ H fun vs H1 => ∃ v w, vs = [v, w] ∧ D.nx ((σ.set a (some v)).set b (some w)) H1) : tPar a b t D σ H := q
theorem q_two {v w : V} {R : V → V → Prop} (q : R v w) : ∃ v' w', [v, w] = [v', w'] ∧ R v' w' := ⟨v, w, rfl, q⟩
theorem q_gtup {n : Nat} {t : TGs} {a : Addr} {xs : List V} {R : L2.St → Hp → Prop} (h : SqT K H a xs) (l : xs.length = n) (q : t xs σ H R) : gTup K n t (.ref a) σ H R := ⟨a, xs, rfl, h, l, q⟩
theorem q_gcons {t : TG} {u : TGs} {r : List V} {R : L2.St → Hp → Prop} (q : t v σ H fun σ' H' => u r σ' H' R) : gCons t u (v :: r) σ H R := ⟨v, r, rfl, q⟩
theorem q_gnil {R : L2.St → Hp → Prop} (q : R σ H) : gNil [] σ H R := ⟨rfl, q⟩
theorem q_gsub {ta tb : TE} {t : TSet} {R : L2.St → Hp → Prop} (q : ta σ H fun o H1 => tb σ H1 fun i H2 => t o i v H2 fun H3 => R σ H3) : gSub ta tb t v σ H R := q
theorem q_ixL {p : Addr} {xs : List V} {j : Nat} (h : SqL K H p xs) (e : xs[j]? = some v) (q : Q v H) : rIxL K (.ref p) (.int (j : Int)) H Q := ⟨p, xs, j, v, rfl, rfl, h, atI_nat e, q⟩
theorem q_ixT {p : Addr} {xs : List V} {j : Nat} (h : SqT K H p xs) (e : xs[j]? = some v) (q : Q v H) : rIxT K (.ref p) (.int (j : Int)) H Q := ⟨p, xs, j, v, rfl, rfl, h, atI_nat e, q⟩
theorem q_yes {R : Bool → Hp → Prop} (q : R true H) : tYes σ H R := q
theorem q_chain {r r' : R2} {ta tb tc : TE} (q : ta σ H fun x H1 => tb σ H1 fun y H2 => r x y H2 fun z H3 => ∃ k, z = .bl k ∧
  if k = true then tc σ H3 fun u H4 => r' y u H4 Q else Q (.bl false) H3) : tChain r r' ta tb tc σ H Q := q
theorem q_for {wi : TI} {g : TG} {tb : TS} (q : wi σ H fun J H1 => ∃ W : Nat → Nat → L2.St → Hp → Prop, (∃ m, W 0 m σ H1) ∧ ∀ i m σ H, W i m σ H →
  (J.stop i H ∧ D.nx σ H) ∨ (J.go i H ∧ ∃ N : L2.St → Hp → Prop, (∀ σ' H', N σ' H' → ∃ m', m' < m ∧ W (i + 1) m' σ' H') ∧ ∀ x H', J.yld i H x H' → g x σ H' fun σ2 H2 => tb { D with nx := N, ct := N, bk := D.nx } σ2 H2)) : tFor wi g tb D σ H := q
theorem q_rng {ta : TA} {R : It → Hp → Prop} (q : ta σ H fun vs H1 => ∃ j : Int, vs = [.int j] ∧ -(2 ^ 62) ≤ j ∧ j < 2 ^ 62 ∧ R (Itr 0 j.toNat) H1) : iRng1 ta σ H R := q
theorem q_rng1 {n : Int} {R : It → Prop} (h0 : 0 ≤ n) (h1 : n ≤ 100000) (q : R (Itr 0 n.toNat)) : ∃ j : Int, [V.int n] = [.int j] ∧ -(2 ^ 62) ≤ j ∧ j < 2 ^ 62 ∧ R (Itr 0 j.toNat) := ⟨n, rfl, by omega, by omega, q⟩
theorem q_ilst {tl : TE} {R : It → Hp → Prop} (q : tl σ H fun x H1 => ∃ a, x = .ref a ∧ (∃ xs, SqL K H1 a xs) ∧ R (Itl K a) H1) : iList K tl σ H R := q
theorem q_ilst1 {a : Addr} {xs : List V} {R : It → Prop} (h : SqL K H a xs) (q : R (Itl K a)) : ∃ a', V.ref a = .ref a' ∧ (∃ xs, SqL K H a' xs) ∧ R (Itl K a') := ⟨a, rfl, ⟨xs, h⟩, q⟩
theorem q_L0 {p : Addr} {xs : List V} (h : H p = some (.lst xs)) (e : xs[0]? = some v) (q : Q v H) : rIxL K (.ref p) (.int 0) H Q := q_ixL (j := 0) (SqL.of h) e q
theorem q_L1 {p : Addr} {xs : List V} (h : H p = some (.lst xs)) (e : xs[1]? = some v) (q : Q v H) : rIxL K (.ref p) (.int 1) H Q := q_ixL (j := 1) (SqL.of h) e q
theorem q_L2 {p : Addr} {xs : List V} (h : H p = some (.lst xs)) (e : xs[2]? = some v) (q : Q v H) : rIxL K (.ref p) (.int 2) H Q := q_ixL (j := 2) (SqL.of h) e q
theorem q_T0 {p : Addr} {xs : List V} (h : H p = some (.tup xs)) (e : xs[0]? = some v) (q : Q v H) : rIxT K (.ref p) (.int 0) H Q := q_ixT (j := 0) (SqT.of h) e q
theorem q_T1 {p : Addr} {xs : List V} (h : H p = some (.tup xs)) (e : xs[1]? = some v) (q : Q v H) : rIxT K (.ref p) (.int 1) H Q := q_ixT (j := 1) (SqT.of h) e q
theorem q_T2 {p : Addr} {xs : List V} (h : H p = some (.tup xs)) (e : xs[2]? = some v) (q : Q v H) : rIxT K (.ref p) (.int 2) H Q := q_ixT (j := 2) (SqT.of h) e q
/-- an item at a drawn place -/
theorem q_Lat {p : Addr} {xs : List V} {d : Int} (h : H p = some (.lst xs)) (h0 : 0 ≤ d) (h1 : d < xs.length) (q : ∀ v, v ∈ xs → Q v H) : rIxL K (.ref p) (.int d) H Q := by
  obtain ⟨j, rfl⟩ := Int.eq_ofNat_of_zero_le h0
  have hj : j < xs.length := by omega
  exact q_ixL (SqL.of h) (List.getElem?_eq_getElem hj) (q _ (List.getElem_mem hj))
theorem q_set {p : Addr} {xs : List V} {j : Nat} {R : Hp → Prop} (h : H p = some (.lst xs)) (hj : j < xs.length) (q : R (upd H p (.lst (xs.set j v)))) : rSetL (.ref p) (.int (j : Int)) v H R :=
  ⟨p, xs, j, j, rfl, rfl, h, by unfold ixN; rw [if_pos (by omega), if_pos (by omega)]; simp, q⟩
theorem q_eqT {a b : Addr} {i j : Int} (h : H a = some (.tup [.int i, .int j])) (h' : H b = some (.tup [.int i, .int j])) (q : Q (.bl true) H) : rEqD K (.ref a) (.ref b) H Q :=
  ⟨.tuple [.int i, .int j], .tuple [.int i, .int j], .tup (SqT.of h) (.cons (.int _) (.cons (.int _) .nil)), .tup (SqT.of h') (.cons (.int _) (.cons (.int _) .nil)), rfl, rfl, by
    have e : PyData.eqv (.tuple [.int i, .int j]) (.tuple [.int i, .int j]) = true := SeqAt.eqv_refl _ rfl
    rw [e]
    exact q⟩
theorem q_eqI {i : Int} (q : Q (.bl true) H) : rEqD K (.int i) (.int i) H Q := ⟨.int i, .int i, .int _, .int _, rfl, rfl, by
    have e : PyData.eqv (.int i) (.int i) = true := SeqAt.eqv_refl _ rfl
    rw [e]
    exact q⟩
theorem q_dec {p : Prop} [Decidable p] {A B : Prop} (h : p → A) (h' : ¬ p → B) : if decide p = true then A else B := by
  by_cases z : p
  · rw [if_pos (decide_eq_true z)]
    exact h z
  · rw [if_neg (by rw [decide_eq_false z]; exact Bool.false_ne_true)]
    exact h' z
theorem q_decT {p : Prop} [Decidable p] {A B : Prop} (z : p) (h : A) : if decide p = true then A else B := by
  rw [if_pos (decide_eq_true z)]
  exact h
theorem q_decF {p : Prop} [Decidable p] {A B : Prop} (z : ¬ p) (h : B) : if decide p = true then A else B := by
  rw [if_neg (by rw [decide_eq_false z]; exact Bool.false_ne_true)]
  exact h
theorem q_ndec {p : Prop} [Decidable p] {A B : Prop} (h : ¬ p → A) (h' : p → B) : if (!decide p) = true then A else B := by
  by_cases z : p
  · rw [decide_eq_true z, if_neg (by decide)]
    exact h' z
  · rw [decide_eq_false z, if_pos (by decide)]
    exact h z
theorem q_ndecT {p : Prop} [Decidable p] {A B : Prop} (z : ¬ p) (h : A) : if (!decide p) = true then A else B := by
  rw [decide_eq_false z, if_pos (by decide)]
  exact h
theorem q_ndecF {p : Prop} [Decidable p] {A B : Prop} (z : p) (h : B) : if (!decide p) = true then A else B := by
  rw [decide_eq_true z, if_neg (by decide)]
  exact h
theorem k_ii : kitB "int" "int" = some true := by decide +kernel
theorem k_ib : kitB "int" "bool" = some false := by decide +kernel
theorem k_it : kitB "int" "tuple" = some false := by decide +kernel
theorem k_tt : kitB "tuple" "tuple" = some true := by decide +kernel
theorem k_ti : kitB "tuple" "int" = some false := by decide +kernel
theorem q_gcd {a b : Int} (q : Q (.int ((Nat.gcd a.natAbs b.natAbs : Nat) : Int)) H) : rGcd [.int a, .int b] H Q := ⟨a, b, rfl, q⟩
theorem q_isi {x : V} {n m : String} {b : Bool} (ty : TyX K H x (.type n)) (e : kitB n m = some b) (q : Q (.bl b) H) : rIsi K [x, .ty m] H Q := ⟨x, .ty m, _, _, b, rfl, .ty m, ty, kit_ty e, q⟩
theorem q_ii {i : Int} (q : Q (.bl true) H) : rIsi K [.int i, .ty "int"] H Q := q_isi (.base (.int _)) k_ii q
theorem q_ib {i : Int} (q : Q (.bl false) H) : rIsi K [.int i, .ty "bool"] H Q := q_isi (.base (.int _)) k_ib q
theorem q_it {i : Int} (q : Q (.bl false) H) : rIsi K [.int i, .ty "tuple"] H Q := q_isi (.base (.int _)) k_it q
theorem q_tt {a : Addr} {xs : List V} (h : H a = some (.tup xs)) (q : Q (.bl true) H) : rIsi K [.ref a, .ty "tuple"] H Q := q_isi (.base (.tup h)) k_tt q
theorem q_ti {a : Addr} {xs : List V} (h : H a = some (.tup xs)) (q : Q (.bl false) H) : rIsi K [.ref a, .ty "int"] H Q := q_isi (.base (.tup h)) k_ti q
theorem q_abs {i : Int} (q : Q (.int (if i < 0 then -i else i)) H) : rAbs [.int i] H Q := ⟨i, rfl, q⟩
theorem q_max {i j : Int} (q : Q (.int (if j > i then j else i)) H) : rMax [.int i, .int j] H Q := ⟨i, j, rfl, q⟩
theorem q_min {i j : Int} (q : Q (.int (if j < i then j else i)) H) : rMin [.int i, .int j] H Q := ⟨i, j, rfl, q⟩
theorem q_intb {k : Bool} (q : Q (.int (if k then 1 else 0)) H) : rInt [.bl k] H Q := .inr ⟨k, rfl, q⟩
theorem q_inti {i : Int} (q : Q (.int i) H) : rInt [.int i] H Q := .inl ⟨i, rfl, q⟩
end
end HP

namespace HP
/-! ### the sum by the bases' common part -/
theorem cop_sum {t s be de b : Int} (c1 : cop t b) (hb : be ∣ b) (cb : Nat.Coprime be.natAbs de.natAbs) : Nat.Coprime (t * de + s * be).natAbs be.natAbs := by
  have hp : ∀ p : Nat, p ∣ (t * de + s * be).natAbs → p ∣ be.natAbs → p = 1 := by
    intro p h1 h2
    have i1 : (p : Int) ∣ t * de + s * be := Int.ofNat_dvd_left.mpr h1
    have i2 : (p : Int) ∣ be := Int.ofNat_dvd_left.mpr h2
    have i3 : (p : Int) ∣ s * be := Int.dvd_trans i2 (Int.dvd_mul_left s be)
    have i4 : (p : Int) ∣ t * de := by
      have := Int.dvd_sub i1 i3
      rwa [Int.add_sub_cancel] at this
    have i5 : p ∣ t.natAbs * de.natAbs := by
      rw [← Int.natAbs_mul]
      exact Int.ofNat_dvd_left.mp i4
    have cp : Nat.Coprime p de.natAbs := Nat.Coprime.coprime_dvd_left h2 cb
    have i6 : p ∣ t.natAbs := Nat.Coprime.dvd_of_dvd_mul_right cp i5
    have i7 : p ∣ b.natAbs := Nat.dvd_trans h2 (Int.natAbs_dvd_natAbs.mpr hb)
    have i8 := Nat.dvd_gcd i6 i7
    rw [show Nat.gcd t.natAbs b.natAbs = 1 from c1] at i8
    exact Nat.dvd_one.mp i8
  exact hp _ (Nat.gcd_dvd_left _ _) (Nat.gcd_dvd_right _ _)
theorem fdiv_of {a s q : Int} (hs : s ≠ 0) (h : a = s * q) : a.fdiv s = q := by
  rw [h, Int.mul_comm]
  exact fdiv_mul hs
structure AddM (t b s d g n c tt bb : Int) : Prop where
  g0 : 0 < g
  gb : g.natAbs ≤ b.natAbs
  c0 : 0 < c
  cg : c.natAbs ≤ g.natAbs
  p : 0 < bb
  cp : cop tt bb
  eq : tt * (b * d) = (t * d + s * b) * bb
theorem add_math {t b s d : Int} (hb : 0 < b) (hd : 0 < d) (c1 : cop t b) (c2 : cop s d) :
    AddM t b s d ((Nat.gcd b.natAbs d.natAbs : Nat) : Int) (t * d.fdiv ((Nat.gcd b.natAbs d.natAbs : Nat) : Int) + s * b.fdiv ((Nat.gcd b.natAbs d.natAbs : Nat) : Int))
      ((Nat.gcd (t * d.fdiv ((Nat.gcd b.natAbs d.natAbs : Nat) : Int) + s * b.fdiv ((Nat.gcd b.natAbs d.natAbs : Nat) : Int)).natAbs (((Nat.gcd b.natAbs d.natAbs : Nat) : Int)).natAbs : Nat) : Int)
      ((t * d.fdiv ((Nat.gcd b.natAbs d.natAbs : Nat) : Int) + s * b.fdiv ((Nat.gcd b.natAbs d.natAbs : Nat) : Int)).fdiv ((Nat.gcd (t * d.fdiv ((Nat.gcd b.natAbs d.natAbs : Nat) : Int) + s * b.fdiv ((Nat.gcd b.natAbs d.natAbs : Nat) : Int)).natAbs (((Nat.gcd b.natAbs d.natAbs : Nat) : Int)).natAbs : Nat) : Int))
      (b.fdiv ((Nat.gcd b.natAbs d.natAbs : Nat) : Int) * d.fdiv ((Nat.gcd (t * d.fdiv ((Nat.gcd b.natAbs d.natAbs : Nat) : Int) + s * b.fdiv ((Nat.gcd b.natAbs d.natAbs : Nat) : Int)).natAbs (((Nat.gcd b.natAbs d.natAbs : Nat) : Int)).natAbs : Nat) : Int)) := by
  have hbn : 0 < b.natAbs := by omega
  have hgn : 0 < Nat.gcd b.natAbs d.natAbs := Nat.gcd_pos_of_pos_left _ hbn
  have cc := Nat.coprime_div_gcd_div_gcd hgn
  have hgb : ((Nat.gcd b.natAbs d.natAbs : Nat) : Int) ∣ b := Int.ofNat_dvd_left.mpr (Nat.gcd_dvd_left _ _)
  have hgd : ((Nat.gcd b.natAbs d.natAbs : Nat) : Int) ∣ d := Int.ofNat_dvd_left.mpr (Nat.gcd_dvd_right _ _)
  have hle : Nat.gcd b.natAbs d.natAbs ≤ b.natAbs := Nat.gcd_le_left _ hbn
  generalize Nat.gcd b.natAbs d.natAbs = G at *
  obtain ⟨be, eb⟩ := hgb
  obtain ⟨de, ed⟩ := hgd
  have hG : (0 : Int) < (G : Int) := by omega
  have hGn : ((G : Int)) ≠ 0 := by omega
  have hbe : 0 < be := by
    rw [eb] at hb
    exact Int.pos_of_mul_pos_right hb hG
  have hde : 0 < de := by
    rw [ed] at hd
    exact Int.pos_of_mul_pos_right hd hG
  have cbd : Nat.Coprime be.natAbs de.natAbs := by
    have e1 : b.natAbs = G * be.natAbs := by
      have := congrArg Int.natAbs eb
      rwa [Int.natAbs_mul, Int.natAbs_natCast] at this
    have e2 : d.natAbs = G * de.natAbs := by
      have := congrArg Int.natAbs ed
      rwa [Int.natAbs_mul, Int.natAbs_natCast] at this
    rwa [e1, e2, Nat.mul_div_cancel_left _ hgn, Nat.mul_div_cancel_left _ hgn] at cc
  rw [fdiv_of hGn eb, fdiv_of hGn ed]
  have n1 := cop_sum (s := s) c1 ⟨(G : Int), by rw [eb, Int.mul_comm]⟩ cbd
  have n2 : Nat.Coprime (t * de + s * be).natAbs de.natAbs := by
    have := cop_sum (s := t) c2 ⟨(G : Int), by rw [ed, Int.mul_comm]⟩ (Nat.Coprime.symm cbd)
    rwa [Int.add_comm] at this
  generalize hN : t * de + s * be = N at n1 n2 ⊢
  have hgn2 : 0 < ((G : Int)).natAbs := by omega
  have hcn : 0 < Nat.gcd N.natAbs ((G : Int)).natAbs := Nat.gcd_pos_of_pos_right _ hgn2
  have cc2 := Nat.coprime_div_gcd_div_gcd hcn
  have hcN : ((Nat.gcd N.natAbs ((G : Int)).natAbs : Nat) : Int) ∣ N := Int.ofNat_dvd_left.mpr (Nat.gcd_dvd_left _ _)
  have hcG : ((Nat.gcd N.natAbs ((G : Int)).natAbs : Nat) : Int) ∣ (G : Int) := Int.ofNat_dvd_left.mpr (Nat.gcd_dvd_right _ _)
  have hle2 : Nat.gcd N.natAbs ((G : Int)).natAbs ≤ ((G : Int)).natAbs := Nat.gcd_le_right _ hgn2
  generalize Nat.gcd N.natAbs ((G : Int)).natAbs = c at *
  obtain ⟨nu, en⟩ := hcN
  obtain ⟨ga, eg⟩ := hcG
  have hc : (0 : Int) < (c : Int) := by omega
  have hcn0 : ((c : Int)) ≠ 0 := by omega
  have hga : 0 < ga := by
    rw [eg] at hG
    exact Int.pos_of_mul_pos_right hG hc
  have ed2 : d = (c : Int) * (ga * de) := by
    rw [ed, eg, Int.mul_assoc]
  rw [fdiv_of hcn0 en, fdiv_of hcn0 ed2]
  have n3 : Nat.Coprime nu.natAbs ga.natAbs := by
    have e1 : N.natAbs = c * nu.natAbs := by
      have := congrArg Int.natAbs en
      rwa [Int.natAbs_mul, Int.natAbs_natCast] at this
    have e2 : ((G : Int)).natAbs = c * ga.natAbs := by
      have := congrArg Int.natAbs eg
      rwa [Int.natAbs_mul, Int.natAbs_natCast] at this
    rwa [e1, e2, Nat.mul_div_cancel_left _ (by omega), Nat.mul_div_cancel_left _ (by omega)] at cc2
  have dn : nu.natAbs ∣ N.natAbs := Int.natAbs_dvd_natAbs.mpr ⟨(c : Int), by rw [en, Int.mul_comm]⟩
  refine ⟨hG, by omega, hc, by omega, Int.mul_pos hbe (Int.mul_pos hga hde), ?_, ?_⟩
  · unfold cop
    rw [Int.natAbs_mul, Int.natAbs_mul]
    exact Nat.Coprime.mul_right (Nat.Coprime.coprime_dvd_left dn n1) (Nat.Coprime.mul_right n3 (Nat.Coprime.coprime_dvd_left dn n2))
  · have e3 : t * d + s * b = (G : Int) * N := by
      rw [← hN, eb, ed, Int.mul_add]
      congr 1 <;> ac_rfl
    rw [e3, en, eb, ed, eg]
    ac_rfl
theorem low_of {T B t' b' : Int} (hB : B ≠ 0) (p : 0 < b') (c : cop t' b') (h : t' * B = T * b') : Low T B t' b' := by
  have hn : t'.natAbs * B.natAbs = T.natAbs * b'.natAbs := by
    rw [← Int.natAbs_mul, ← Int.natAbs_mul, h]
  have d1 : b'.natAbs ∣ B.natAbs := by
    have : b'.natAbs ∣ t'.natAbs * B.natAbs := ⟨T.natAbs, by rw [hn, Nat.mul_comm]⟩
    exact Nat.Coprime.dvd_of_dvd_mul_left (Nat.Coprime.symm c) this
  obtain ⟨k, hk⟩ := d1
  have hk0 : 0 < k := by
    rcases Nat.eq_zero_or_pos k with z | z
    · subst z
      omega
    · exact z
  have hT : t'.natAbs * k = T.natAbs := by
    rw [hk] at hn
    have : t'.natAbs * k * b'.natAbs = T.natAbs * b'.natAbs := by
      rw [← hn]
      ac_rfl
    exact Nat.eq_of_mul_eq_mul_right (by omega) this
  refine ⟨h, ?_, ?_⟩
  · rw [← hT]
    exact Nat.le_mul_of_pos_right _ hk0
  · rw [hk]
    exact Nat.le_mul_of_pos_right _ hk0
end HP
namespace HP
open PySem PySem.Spec PyProof.Rows L2
/-! ### what each def promises -/
def spIsInt : Sp := fun vs H Q _ => ∃ i, vs = [.int i] ∧ Q (.bl true) H
def spIsNum : Sp := fun vs H Q _ => ∃ v t b, vs = [v] ∧ Num H v t b ∧ Q (.bl true) H
def spNeed : Sp := fun vs H Q _ => ∃ v t b, vs = [v] ∧ Num H v t b ∧ Q .non H
def spPair : Sp := fun vs H Q _ => ∃ v t b, vs = [v] ∧ Num H v t b ∧ ∀ p H', Same H H' → H' p = some (.tup [.int t, .int b]) → Q (.ref p) H'
def spLow : Sp := fun vs H Q _ => ∃ t b, vs = [.int t, .int b] ∧ b ≠ 0 ∧ Bt 8000 t ∧ Bt 8000 b ∧ ∀ v H' t' b', Same H H' → Num H' v t' b' → Low t b t' b' → Q v H'
def spNeg : Sp := fun vs H Q _ => ∃ v t b, vs = [v] ∧ Num H v t b ∧ ∀ v' H', Same H H' → Num H' v' (-t) b → Q v' H'
def spLess : Sp := fun vs H Q _ => ∃ x y t b s d, vs = [x, y] ∧ Num H x t b ∧ Num H y s d ∧ Bt 4000 t ∧ Bt 4000 b ∧ Bt 4000 s ∧ Bt 4000 d ∧ ∀ H', Same H H' → Q (.bl (decide (t * d < s * b))) H'
def spAdd : Sp := fun vs H Q _ => ∃ x y t b s d, vs = [x, y] ∧ Num H x t b ∧ Num H y s d ∧ Bt 2000 t ∧ Bt 2000 b ∧ Bt 2000 s ∧ Bt 2000 d ∧ ∀ v H' t' b', Same H H' → Num H' v t' b' → Low (t * d + s * b) (b * d) t' b' → Q v H'
def spSub : Sp := fun vs H Q _ => ∃ x y t b s d, vs = [x, y] ∧ Num H x t b ∧ Num H y s d ∧ Bt 2000 t ∧ Bt 2000 b ∧ Bt 2000 s ∧ Bt 2000 d ∧ ∀ v H' t' b', Same H H' → Num H' v t' b' → Low (t * d - s * b) (b * d) t' b' → Q v H'
def spMul : Sp := fun vs H Q _ => ∃ x y t b s d, vs = [x, y] ∧ Num H x t b ∧ Num H y s d ∧ Bt 2000 t ∧ Bt 2000 b ∧ Bt 2000 s ∧ Bt 2000 d ∧ ∀ v H' t' b', Same H H' → Num H' v t' b' → Low (t * s) (b * d) t' b' → Q v H'
def spOver : Sp := fun vs H Q _ => ∃ x y t b s d, vs = [x, y] ∧ Num H x t b ∧ Num H y s d ∧ s ≠ 0 ∧ Bt 2000 t ∧ Bt 2000 b ∧ Bt 2000 s ∧ Bt 2000 d ∧ ∀ v H' t' b', Same H H' → Num H' v t' b' → Low (t * d) (b * s) t' b' → Q v H'
/-! by the turn's number -/
def rt (k t b s d : Int) : Int := if k = 0 then t * d + s * b else if k = 1 then t * d - s * b else if k = 2 then t * s else t * d
def rb (k b s d : Int) : Int := if k = 3 then b * s else b * d
def spTold : Sp := fun vs H Q _ => ∃ k x y t b s d bn, vs = [.int k, x, y, .bl bn] ∧ Num H x t b ∧ Num H y s d ∧ (k = 0 ∨ k = 1 ∨ k = 2 ∨ (k = 3 ∧ s ≠ 0)) ∧ Bt 1000 t ∧ Bt 1000 b ∧ Bt 1000 s ∧ Bt 1000 d ∧ ∀ v H' t' b', Same H H' → Num H' v t' b' → Low (rt k t b s d) (rb k b s d) t' b' → Q v H'
def spDue2 : Sp := fun vs H Q _ => ∃ k x y t b s d, vs = [.int k, x, y] ∧ Num H x t b ∧ Num H y s d ∧ (k = 0 ∨ k = 1 ∨ k = 2 ∨ (k = 3 ∧ s ≠ 0)) ∧ Bt 1000 t ∧ Bt 1000 b ∧ Bt 1000 s ∧ Bt 1000 d ∧ ∀ v H' t' b', Same H H' → Num H' v t' b' → Low (rt k t b s d) (rb k b s d) t' b' → Q v H'
def spTwo : Sp := fun vs H Q _ => ∃ x y t b s d bn, vs = [x, y, .bl bn] ∧ Num H x t b ∧ Num H y s d ∧ Bt 200 t ∧ Bt 200 b ∧ Bt 200 s ∧ Bt 200 d ∧ ∀ H', Same H H' → Q (.bl true) H'
def spMadeR : Sp := fun vs H Q _ => ∃ bx n, vs = [.ref bx] ∧ Box H bx n ∧ n < 700000 ∧ ∀ H', Go bx H H' → Box H' bx (n + 300) → Q (.bl true) H'
theorem rb_ne {k b s d : Int} (hb : 0 < b) (hd : 0 < d) (h : k = 0 ∨ k = 1 ∨ k = 2 ∨ (k = 3 ∧ s ≠ 0)) : rb k b s d ≠ 0 := by
  unfold rb
  split
  · rename_i e
    rcases h with h | h | h | ⟨_, h⟩
    · omega
    · omega
    · omega
    · exact Int.mul_ne_zero (by omega) h
  · exact Int.mul_ne_zero (by omega) (by omega)
theorem rt_bt {n : Nat} {k0 t0 b0 s0 d0 : Int} (h1 : Bt n t0) (h2 : Bt n b0) (h3 : Bt n s0) (h4 : Bt n d0) : Bt (4 * n + 1) (rt k0 t0 b0 s0 d0) ∧ Bt (4 * n + 1) (rb k0 b0 s0 d0) := by
  have e1 := (h1.mul h4).add (h3.mul h2)
  have e2 := (h1.mul h4).sub (h3.mul h2)
  constructor
  · unfold rt
    split
    · exact e1.mono (by omega)
    · split
      · exact e2.mono (by omega)
      · split
        · exact (h1.mul h3).mono (by omega)
        · exact (h1.mul h4).mono (by omega)
  · unfold rb
    split
    · exact (h2.mul h3).mono (by omega)
    · exact (h2.mul h4).mono (by omega)
def sgn (t : Int) : Int := if t < 0 then -1 else if 0 < t then 1 else 0
def spSign : Sp := fun vs H Q _ => ∃ v t b, vs = [v] ∧ Num H v t b ∧ ∀ H', Same H H' → Q (.int (sgn t)) H'
def spBare : Sp := fun vs H Q _ => ∃ v t b, vs = [v] ∧ Num H v t b ∧ ∀ v' H', Same H H' → Num H' v' (if t < 0 then -t else t) b → Q v' H'
def flo (t b c d : Int) : Int := (t * d).fdiv (b * c) * c
def spFloor : Sp := fun vs H Q _ => ∃ x y t b c d, vs = [x, y] ∧ Num H x t b ∧ Num H y c d ∧ 0 < c ∧ Bt 1000 t ∧ Bt 1000 b ∧ Bt 1000 c ∧ Bt 1000 d ∧ ∀ v H' t' b', Same H H' → Num H' v t' b' → Low (flo t b c d) d t' b' → Q v H'
theorem low_eq {x y t1 b1 t2 b2 : Int} (L1 : Low x y t1 b1) (L2 : Low x y t2 b2) (hy : y ≠ 0) : t1 * b2 = t2 * b1 := by
  have h1 := L1.eq
  have h2 := L2.eq
  refine Int.eq_of_mul_eq_mul_right hy ?_
  rw [Int.mul_assoc, Int.mul_comm b2 y, ← Int.mul_assoc, h1, Int.mul_assoc x b1 b2, Int.mul_comm b1 b2, ← Int.mul_assoc x b2 b1, ← h2, Int.mul_assoc t2 y b1, Int.mul_comm y b1, ← Int.mul_assoc]
/-- the floor of a multiple is it -/
theorem flo_self {c d m t b t' b' : Int} (hb : 0 < b) (hd : 0 < d) (hc : 0 < c) (h : t * d = c * m * b) (h' : t' * d = flo t b c d * b') : t' * b = t * b' := by
  have e : flo t b c d = c * m := by
    unfold flo
    rw [h, show c * m * b = m * (b * c) by rw [Int.mul_comm c m, Int.mul_assoc, Int.mul_comm c b], Int.mul_fdiv_cancel m (by have := Int.mul_pos hb hc; omega), Int.mul_comm]
  rw [e] at h'
  refine Int.eq_of_mul_eq_mul_right (show d ≠ 0 by omega) ?_
  rw [Int.mul_assoc, Int.mul_comm b d, ← Int.mul_assoc, h', Int.mul_assoc t b' d, Int.mul_comm b' d, ← Int.mul_assoc, h, Int.mul_assoc, Int.mul_comm b' b, ← Int.mul_assoc]
theorem num_nz {H : Hp} {v : V} {b : Int} {a : Addr} (h : Num H v 0 b) (e : v = .ref a) : False := by
  rcases h with ⟨h, _⟩ | ⟨_, _, _, h1, h2⟩
  · rw [h] at e
    cases e
  · unfold HP.cop at h2
    have : Nat.gcd (0 : Int).natAbs b.natAbs = b.natAbs := Nat.gcd_zero_left _
    omega
theorem eqv_int (i j : Int) : PyData.eqv (.int i) (.int j) = decide (i = j) := by
  by_cases h : i = j
  · subst h
    rw [decide_eq_true rfl]
    exact SeqAt.eqv_refl _ rfl
  · rw [decide_eq_false h]
    simp [PyData.eqv, h]
theorem q_num0 {K : PySem.W.Frag} {H : Hp} {Q : VK} {v : V} {t b : Int} (N : Num H v t b) (q : Q (.bl (decide (t = 0))) H) : rEqD K v (.int 0) H Q := by
  rcases N with ⟨rfl, rfl⟩ | ⟨a, rfl, ha, hb, hc⟩
  · exact ⟨.int t, .int 0, .int _, .int _, rfl, rfl, by rw [eqv_int]; exact q⟩
  · refine ⟨.tuple [.int t, .int b], .int 0, .tup (SqT.of ha) (.cons (.int _) (.cons (.int _) .nil)), .int _, rfl, rfl, ?_⟩
    have e : decide (t = 0) = false := decide_eq_false fun z => by
      subst z
      exact num_nz (.inr ⟨a, rfl, ha, hb, hc⟩) rfl
    rw [e] at q
    have e2 : PyData.eqv (.tuple [.int t, .int b]) (.int 0) = false := by simp [PyData.eqv]
    rw [e2]
    exact q
theorem q_num0n {K : PySem.W.Frag} {H : Hp} {Q : VK} {v : V} {t b : Int} (N : Num H v t b) (q : Q (.bl (!decide (t = 0))) H) : rNeD K v (.int 0) H Q := by
  obtain ⟨d, e, h1, h2, h3, h4, h5⟩ := q_num0 (K := K) (Q := fun x H' => ∃ c, x = .bl c ∧ Q (.bl (!c)) H') N ⟨_, rfl, q⟩
  obtain ⟨c, e1, h6⟩ := h5
  cases e1
  exact ⟨d, e, h1, h2, h3, h4, h6⟩
theorem q_isint {i : Int} {H : Hp} {Q : VK} {E : XK} (q : Q (.bl true) H) : spIsInt [.int i] H Q E := ⟨i, rfl, q⟩
/-! the law's own -/
def spCell (K : PySem.W.Frag) : Sp := fun vs H Q _ => ∃ (a : Addr) (ns : List Int) (k : Nat), vs = [.ref a, .int (k : Int)] ∧ SqL K H a (ns.map V.int) ∧ k < 1000 ∧ ∀ x, Q (.int x) H
def spBox : Sp := fun vs H Q _ => ∃ x, vs = [.int x] ∧ ∀ p a b, H p = none → 0 ≤ a → 0 ≤ b → b < 2147483629 → Q (.ref p) (upd H p (.lst [.int a, .int b, .int 0]))
def spTake : Sp := fun vs H Q _ => ∃ bx m n, vs = [.ref bx, .int m] ∧ Box H bx n ∧ 0 < m ∧ Bt 300 m ∧ n < 1000000 ∧ ∀ d H', 0 ≤ d → d < m → Go bx H H' → Box H' bx (n + 1) → Q (.int d) H'
def spFar : Sp := fun vs H Q _ => ∃ bx n, vs = [.ref bx] ∧ Box H bx n ∧ n < 900000 ∧ ∀ x H', Bt 110 x → Go bx H H' → Box H' bx (n + 30) → Q (.int x) H'
def spDrawn : Sp := fun vs H Q _ => ∃ bx n, vs = [.ref bx] ∧ Box H bx n ∧ n < 800000 ∧ ∀ v t b H', Num H' v t b → Bt 120 t → Bt 120 b → Go bx H H' → Box H' bx (n + 100) → Q v H'
def spIs : Sp := fun vs H Q _ => ∃ x y t b, vs = [x, y] ∧ Num H x t b ∧ Num H y t b ∧ ∀ H', Same H H' → Q (.bl true) H'
def spIs0 : Sp := fun vs H Q _ => ∃ i, vs = [.int i, .int i] ∧ Q (.bl true) H
def spNear : Sp := fun vs H Q _ => ∃ bx n v t b, vs = [.ref bx, v] ∧ Box H bx n ∧ Num H v t b ∧ Bt 120 t ∧ Bt 120 b ∧ n < 800000 ∧ ∀ v' t' b' H', Num H' v' t' b' → Bt 140 t' → Bt 140 b' → Go bx H H' → Box H' bx (n + 100) → Q v' H'
def spOneR : Sp := fun vs H Q _ => ∃ v t b, vs = [v] ∧ Num H v t b ∧ Bt 140 t ∧ Bt 140 b ∧ ∀ H', Same H H' → Q (.bl true) H'
def spLaw (K : PySem.W.Frag) : Sp := fun vs H Q _ => ∃ (a : Addr) (ns : List Int), vs = [.ref a] ∧ SqL K H a (ns.map V.int) ∧ ns.length ≤ 63 ∧ ∀ H', Q (.bl true) H'
def spStepsR : Sp := fun vs H Q _ => ∃ bx n v t b, vs = [.ref bx, v] ∧ Box H bx n ∧ Num H v t b ∧ Bt 140 t ∧ Bt 140 b ∧ n < 700000 ∧ ∀ H', Go bx H H' → Box H' bx (n + 200) → Q (.bl true) H'
end HP
/-! ### a def whose body wants that nothing is being shown -/
namespace HP
open PySem PySem.Spec PyProof.Rows L2
structure FnG (P : Program) (w : World) (K : PySem.W.Frag) (mg : Str → Option Value) (base : Heap) (k : Nat) (f : Addr) (fd : FuncData) (ps : List Str) (sp : Sp) : Prop where
  len : ∀ vs H Q E, sp vs H Q E → vs.length = ps.length
  run : ∀ (A : Around) (fs : List Env) (s : Shared) (H : Hp) (ar : Args) (us : List Value) (vs : List V) (Q : VK) (E : XK), A.guards = some [] → Room k A → Env0 P w K mg base A fs s H → BindsTo s fd ar (ps.zip us) → Vals vs us → sp vs H Q E →
    codeAny (model P w) A (.call (.ref f) ar) (CR CX0 fs P w H s Q E) s
section
variable {P : Program} {w : World} {K : PySem.W.Frag} {mg : Str → Option Value} {base : Heap}
theorem fnG {x : Str} {st : Stmt} {f : Addr} {fd : FuncData} {N ps : List Str} {k : Nat} {sp : Sp} (F : Fun K x x st f fd) (S : FnScope N ps (defScope st))
    (hb : ∀ (cdv : Value) (A : Around) (fs : List Env) (s : Shared) (H : Hp) (vs : List V) (Q : VK) (E : XK), (A.deeper (envOfC x (defScope st) s.heap.objs.size f cdv)).guards = some [] → Room k (A.deeper (envOfC x (defScope st) s.heap.objs.size f cdv)) → sp vs H Q E →
      ∃ t, PSs (cxOf CX0 P w K mg base N x (defScope st) f cdv A fs s H E).nox (defBody st) t ∧ t { nx := fun _ H' => Q .non H', rt := Q } (start N vs) H) : FnG P w K mg base (k + 1) f fd ps (spN ps.length sp) := by
  obtain ⟨oc, od, kV, doc, pm, an, cdv, ct, osl, rfl, lk, hcd⟩ := F.ex
  refine ⟨fun _ _ _ _ h => h.1, ?_⟩
  intro A fs s H ar us vs Q E hgd hroom env0 bnd rel want
  have inK : K.In s.heap := env0.mod.kin.keeps (fun b o e => (env0.bs b o e).1)
  have noLim : s.heap.NoLimit := env0.mod.nolimit.keeps (fun b o e => (env0.bs b o e).1)
  have params : ∀ y ∈ ps.zip us, (defScope st).names.lookup y.1 = some .local ∨ ((defScope st).names.lookup y.1 = some .cell ∧ ((cellsFrom (s.heap.objs.size + 1) (defScope st).names []).lookup y.1).isSome = true) := by
    rintro ⟨nm, v⟩ hy
    cases S.par nm (List.of_mem_zip hy).1 with
    | inl q => exact Or.inl q
    | inr q => exact Or.inr ⟨q, PySem.W.cellsFrom_some _ _ _ (Or.inl q)⟩
  refine codeAny_call_function hroom.depth (inK _ _ lk) rfl S.co S.gen rfl (PySem.W.codeRec_of inK hcd) (bnd _ _ _ _ ?_)
  refine wpAny_newFunctionEnv_cells S.kind params (fun env eqn s1 inCall => ?_)
  subst eqn
  refine ⟨noLim.keeps inCall.toInCall.keep, codeAny_func ?_⟩
  obtain ⟨t, body, goal⟩ := hb cdv A fs s H vs Q E hgd (hroom.deeper _) want.2
  have J : Inv (cxOf CX0 P w K mg base N x (defScope st) f cdv A fs s H E) [] (start N vs) H s1 := inv_start S hroom.hd env0 want.1 rel inCall
  refine wpAny_mono (body.nox.run [] s1 (start N vs) H _ J goal) ?_ (fun _ _ done => done)
  intro fl s2 done
  cases fl with
  | ret u =>
    obtain ⟨v, σ2, H2, J2, rv, q⟩ := done
    exact ⟨v, H2, J2.os, J2.bare, J2.base, J2.hok, rv, q⟩
  | next =>
    obtain ⟨σ2, H2, J2, q⟩ := done
    exact ⟨V.non, H2, J2.os, J2.bare, J2.base, J2.hok, rfl, q⟩
  | brk => exact absurd done (fun ⟨_, _, _, q⟩ => q)
  | cont => exact absurd done (fun ⟨_, _, _, q⟩ => q)
end
/-- a law's call, where the def is walked under the caller alone -/
theorem callG {P : Program} {w : World} {K : PySem.W.Frag} {mg mb : Str → Option Value} {k : Nat} {fa a : Addr} {fd : FuncData} {x : Str} {sp : Sp} {s : Shared} {vs : List Value} {ns : List Int}
    (inK : K.In s.heap) (glob : s.heap.Ns mainGlobals mg) (blt : s.heap.Ns builtinsNs mb) (bltx : ∀ y : Str, y ≠ "__name__" → mb y = bootBuiltins y) (lim : s.heap.NoLimit) (gens : s.gens = #[])
    (obj : s.heap.get? a = some { cls := .type "list", data := .seq vs.toArray }) (ivs : IntsAre vs ns) (few : ns.length ≤ sizeLine) (room : Room k callerA)
    (F : ∀ base : Heap, K.In base → base.Ns mainGlobals mg → FnG P w K mg base k fa fd [x] sp) (bnd : ∀ (s : Shared) (u : Value), BindsTo s fd ⟨[u], []⟩ [(x, u)])
    (want : ∀ H : Hp, Only H → SqL K H a (ns.map V.int) → sp [.ref a] H (fun v _ => v = .bl true) fun _ _ _ => False) :
    codeAny (model P w) callerA (.call (.ref fa) ⟨[.ref a], []⟩) (fun r s' => r = .ok (.ret (.bool true)) ∧ OldK s.heap s'.heap ∧ s'.os = s.os ∧ AllBare s'.gens) s := by
  have rel := vals_ints ivs
  have len := ivs.length
  suffices step : ∀ H : Hp, Only H → SqL K H a (ns.map V.int) → HOk P w H s.heap → (∀ b u, H b = some u → b = a ∧ K.lookup a = none) →
      codeAny (model P w) callerA (.call (.ref fa) ⟨[.ref a], []⟩) (fun r s' => r = .ok (.ret (.bool true)) ∧ OldK s.heap s'.heap ∧ s'.os = s.os ∧ AllBare s'.gens) s by
    cases hk : K.lookup a with
    | some o =>
      have e := inK a o hk
      rw [obj] at e
      cases e
      exact step (fun _ => none) (fun _ => Or.inl rfl) (Or.inr ⟨_, vs.toArray, _, hk, rfl, rfl, rfl, by rw [List.size_toArray, len]; exact few, by simpa using rel⟩) (fun b u z => nomatch (show (none : Option HO) = some u from z)) (fun b u z => nomatch (show (none : Option HO) = some u from z))
    | none =>
      have only : ∀ b u, (if b = a then some (HO.frz { cls := .type "list", data := .seq vs.toArray } (.lst (ns.map V.int))) else none) = some u → b = a ∧ u = HO.frz { cls := .type "list", data := .seq vs.toArray } (.lst (ns.map V.int)) := by
        intro b u z
        split at z
        · rename_i hb
          exact ⟨hb, (Option.some.inj z).symm⟩
        · cases z
      refine step (fun b => if b = a then some (.frz { cls := .type "list", data := .seq vs.toArray } (.lst (ns.map V.int))) else none) (fun b => ?_) (Or.inl (Or.inr ⟨{ cls := .type "list", data := .seq vs.toArray }, if_pos rfl⟩)) (fun b u z => ?_) (fun b u z => ⟨(only b u z).1, hk⟩)
      · by_cases hb : b = a
        · exact Or.inr ⟨_, _, if_pos hb⟩
        · exact Or.inl (if_neg hb)
      · obtain ⟨rfl, rfl⟩ := only b u z
        exact ⟨obj, by rw [List.length_map]; exact few, vs, _, rel, obj⟩
  intro H ho hs hok only
  have fresh : ∀ {b : Addr} {o : Obj} {es : Array DictEntry} {n : Nat}, s.heap.get? b = some o → o.data = .dict es n → H b = none := by
    intro b o es n e d
    cases q : H b with
    | none => rfl
    | some u =>
      obtain ⟨rfl, _⟩ := only b u q
      rw [obj] at e
      cases e
      exact nomatch (show Data.seq vs.toArray _ = Data.dict es n from d)
  have hid : ∀ {b : Addr} {m : Str → Option Value}, s.heap.Ns b m → (hidT s.heap H).Ns b m := by
    rintro b m ⟨o, es, n, e, d, r⟩
    exact ⟨o, es, n, hidT_get e (fresh e d), d, r⟩
  have inKb : K.In (hidT s.heap H) := by
    intro b o e
    refine hidT_get (inK b o e) ?_
    cases q : H b with
    | none => rfl
    | some u =>
      obtain ⟨rfl, hk⟩ := only b u q
      rw [hk] at e
      cases e
  have md : Mod K mg (hidT s.heap H) := ⟨inKb, hid glob, ⟨mb, hid blt, bltx⟩, by
    obtain ⟨mc, h1, h2⟩ := lim
    exact ⟨mc, hid h1, h2⟩⟩
  have env0 : Env0 P w K mg (hidT s.heap H) callerA [] s H := ⟨rfl, md, fun b o e => of_hidT e, Nat.le_of_eq (hidT_size _ _), trivial, fun b hb => absurd (show b ∈ ([] : List Addr) from hb) List.not_mem_nil, hok, .of_eq gens⟩
  refine codeAny_mono ((F _ inKb (hid glob)).run callerA [] s H ⟨[.ref a], []⟩ [.ref a] [.ref a] _ _ rfl room env0 (bnd s (.ref a)) (.cons rfl .nil) (want H ho hs)) ?_
  intro r s' done
  match r, done with
  | .error _, z => exact False.elim z
  | .ok .next, z => exact False.elim z
  | .ok .brk, z => exact False.elim z
  | .ok .cont, z => exact False.elim z
  | .ok (.ret u), ⟨v, H', os, bare, un, hok', rv, q⟩ =>
    have q' : v = .bl true := q
    subst q'
    obtain rfl : u = Value.bool true := rv
    refine ⟨rfl, OldK.of_keep (fun b o e => ?_), os, bare⟩
    cases q : H b with
    | none => exact un.keep b o e q (fun z => absurd (show b ∈ ([] : List Addr) from z) List.not_mem_nil) List.not_mem_nil
    | some u =>
      cases ho b with
      | inl z => rw [q] at z; cases z
      | inr z =>
        obtain ⟨ob, xs, z⟩ := z
        have e1 := (hok b _ z).1
        have e2 := (hok' b _ (un.frzs b ob _ z)).1
        rw [e] at e1
        cases e1
        exact e2
/-- the goal that k_head leaves, by such a promise -/
theorem walkG {l : PySem.W.OpenLaw} {n k : Nat} {q : Program} {loose : List Str} {XP : (Str → Option Value) → Heap → Prop} {YP : World → Heap → Prop} {d : DefRec} {K : Params → PySem.W.Frag} {sp : World → Sp} {x : Str}
    (most : l.most = some n) (few : n ≤ sizeLine) (nodef : d.params.defaults = []) (room : Room k callerA) (inK : ∀ (w : World) (h : Heap), YP w h → (K w.params).In h)
    (F : ∀ (w : World) (mg : Str → Option Value) (fa : Addr) (h : Heap), (K w.params).In h → h.Ns mainGlobals mg → mg d.name = some (.ref fa) →
      ∃ fd : FuncData, (∀ (s : Shared) (u : Value), BindsTo s fd ⟨[u], []⟩ [(x, u)]) ∧ ∀ base : Heap, (K w.params).In base → base.Ns mainGlobals mg → FnG l.prog w (K w.params) mg base k fa fd [x] (sp w))
    (want : ∀ (w : World) (H : Hp) (a : Addr) (ns : List Int), ns.length ≤ n → Only H → SqL (K w.params) H a (ns.map V.int) → sp w [.ref a] H (fun v _ => v = .bl true) fun _ _ _ => False) :
    PySem.W.WalkO q loose XP YP l.row.toRowW d [] (fun f vs => PySem.call f vs) := by
  refine Att.attach_call most nodef ?_
  intro w s0 s1 mg mb fa o pm cd doc a vs ns G Y ho hd hcd gl obj ivs small gens
  obtain ⟨fd, bnd, walk⟩ := F w mg fa _ (inK w _ Y) G.T.g gl
  exact callG (inK w _ Y) G.T.g G.T.b G.T.builtins G.T.nolimit gens obj ivs (Nat.le_trans small few) room walk bnd (fun H only sq => want w H a ns small only sq)

/-! ### what is shown of data -/
section
variable {X : Cx}
def rRepr (K : PySem.W.Frag) : List V → Hp → VK → Prop := fun xs H Q => ∃ a d, xs = [.ref a] ∧ Dp K H (.ref a) d ∧ d.showable = true ∧ d.hasDict = false ∧ d.depth ≤ 60 ∧ d.shown.length ≤ sizeLine ∧ Q (.str d.shown) H
theorem call_reprD (hg : X.A.guards = some []) (hu : X.A.units + 64 < cLine) : CallR X (.builtin "repr") (rRepr X.K) := by
  intro pins s σ H xs us Q I r h
  obtain ⟨a, d, rfl, hd, hs, nd, dep, sz, q⟩ := h
  obtain ⟨u, rfl, rx⟩ := vals1 r
  cases (show u = Value.ref a from rx)
  obtain ⟨as, rd⟩ := Dp.reads I d _ _ hd rfl
  exact repr_of_reads' rd hs (fun z => by rw [nd] at z; cases z) hg (by omega) (fun _ _ e => e) (fun h' u tk k => ⟨.str d.shown, H, I.kept k, ⟨u, rfl⟩, q⟩) sz
theorem q_reprB {K : PySem.W.Frag} {H : Hp} {Q : VK} {a : Addr} {b1 b2 : Bool} (h : H a = some (.lst [.bl b1, .bl b2])) (q : Q (.str (PyData.list [.bool b1, .bool b2]).shown) H) : rRepr K [.ref a] H Q :=
  ⟨a, .list [.bool b1, .bool b2], rfl, .lst (SqL.of h) (.cons (.bl _) (.cons (.bl _) .nil)), rfl, rfl, (by cases b1 <;> cases b2 <;> decide), (by cases b1 <;> cases b2 <;> decide +kernel), q⟩
theorem q_neS {H : Hp} {Q : VK} {x : Str} (q : Q (.bl false) H) : rNe (.str x) (.str x) H Q := ⟨rfl, by rw [decide_eq_true rfl]; exact q⟩
theorem Go.same {bx : Addr} {H H' : Hp} (h : H bx = none) (g : Go bx H H') : Same H H' := fun b o e => g b o e (ne_of_none e h)
end
end HP
namespace HP
open PySem PySem.Spec PyProof.Rows L2
/-! ### data that is shown, compared -/
structure GD (d : PyData) (k m : Nat) : Prop where
  s : d.showable = true
  h : d.hasDict = false
  dp : d.depth ≤ k
  l : d.leavesShort 2000 = true
  b : d.bulk ≤ m
  c : d.canLay0 = true
theorem GD.mono {d : PyData} {k m k' m' : Nat} (g : GD d k m) (h1 : k ≤ k') (h2 : m ≤ m') : GD d k' m' := ⟨g.s, g.h, Nat.le_trans g.dp h1, g.l, Nat.le_trans g.b h2, g.c⟩
theorem gd_int {i : Int} (h : Bt 1900 i) : GD (.int i) 1 0 := by
  have hl := h.log
  refine ⟨?_, rfl, ?_, ?_, ?_, rfl⟩
  · simp only [PyData.showable, decide_eq_true_eq]
    omega
  · simp [PyData.depth]
  · simp only [PyData.leavesShort, decide_eq_true_eq]
    exact Nat.le_trans (int_text_len_1921 (i := i) (by omega)) (by decide)
  · simp [PyData.bulk]
theorem gd_all {k m : Nat} : ∀ ds : List PyData, (∀ d ∈ ds, GD d k m) → PyData.showableAll ds = true ∧ PyData.hasDictAll ds = false ∧ PyData.depthAll ds ≤ k ∧ PyData.leavesShortAll 2000 ds = true ∧ PyData.bulkAll ds ≤ (m + 1) * ds.length ∧ PyData.canLayAll0 ds = true
  | [], _ => ⟨rfl, rfl, Nat.zero_le _, rfl, Nat.zero_le _, rfl⟩
  | d :: ds, h => by
    have g := h d List.mem_cons_self
    obtain ⟨h1, h2, h3, h4, h5, h6⟩ := gd_all ds fun x hx => h x (List.mem_cons_of_mem _ hx)
    refine ⟨?_, ?_, ?_, ?_, ?_, ?_⟩
    · simp only [PyData.showableAll, g.s, h1, Bool.and_self]
    · simp only [PyData.hasDictAll, g.h, h2, Bool.or_self]
    · have := g.dp
      simp only [PyData.depthAll]
      omega
    · simp only [PyData.leavesShortAll, g.l, h4, Bool.and_self]
    · have := g.b
      simp only [PyData.bulkAll, List.length_cons, Nat.mul_add, Nat.mul_one]
      omega
    · simp only [PyData.canLayAll0, g.c, h6, Bool.and_self]
theorem gd_list {k m : Nat} {ds : List PyData} (h : ∀ d ∈ ds, GD d k m) : GD (.list ds) (k + 1) ((m + 1) * ds.length) := by
  obtain ⟨h1, h2, h3, h4, h5, h6⟩ := gd_all ds h
  refine ⟨?_, ?_, ?_, ?_, ?_, ?_⟩
  · simpa only [PyData.showable] using h1
  · simpa only [PyData.hasDict] using h2
  · simp only [PyData.depth]
    omega
  · simpa only [PyData.leavesShort] using h4
  · simpa only [PyData.bulk] using h5
  · simpa only [PyData.canLay0] using h6
theorem gd_tuple {k m : Nat} {ds : List PyData} (h : ∀ d ∈ ds, GD d k m) : GD (.tuple ds) (k + 1) ((m + 1) * ds.length) := by
  obtain ⟨h1, h2, h3, h4, h5, h6⟩ := gd_all ds h
  refine ⟨?_, ?_, ?_, ?_, ?_, ?_⟩
  · simpa only [PyData.showable] using h1
  · simpa only [PyData.hasDict] using h2
  · simp only [PyData.depth]
    omega
  · simpa only [PyData.leavesShort] using h4
  · simpa only [PyData.bulk] using h5
  · simpa only [PyData.canLay0] using h6
theorem GD.shaped {d : PyData} {k m : Nat} (g : GD d k m) (h : k ≤ 64) : SeqAt.shaped d = true := by
  unfold SeqAt.shaped
  rw [g.c, decide_eq_true (Nat.le_trans g.dp h)]
  rfl
theorem GD.len {d : PyData} {k m : Nat} (g : GD d k m) (h : m ≤ 8000) : d.shown.length ≤ sizeLine := by
  have h1 := PyData.shown_le_bulk 2000 (by decide) d g.l
  have h2 := g.b
  rw [sizeLine_eq]
  have h3 : (2000 + 2) * d.bulk ≤ (2000 + 2) * 8000 := Nat.mul_le_mul_left _ (by omega)
  omega
theorem q_repr {K : PySem.W.Frag} {H : Hp} {Q : VK} {a : Addr} {d : PyData} {k m : Nat} (h : Dp K H (.ref a) d) (g : GD d k m) (hk : k ≤ 60) (hm : m ≤ 8000) (q : Q (.str d.shown) H) : rRepr K [.ref a] H Q :=
  ⟨a, d, rfl, h, g.s, g.h, Nat.le_trans g.dp hk, g.len hm, q⟩
/-- a number as data -/
def dN (t b : Int) : PyData := if b = 1 then .int t else .tuple [.int t, .int b]
theorem Num.dp {K : PySem.W.Frag} {H : Hp} {v : V} {t b : Int} (h : Num H v t b) : Dp K H v (dN t b) := by
  unfold dN
  rcases h with ⟨rfl, rfl⟩ | ⟨a, rfl, ha, hb, _⟩
  · rw [if_pos rfl]
    exact .int _
  · rw [if_neg (by omega)]
    exact .tup (SqT.of ha) (.cons (.int _) (.cons (.int _) .nil))
theorem gd_num {t b : Int} (h1 : Bt 1900 t) (h2 : Bt 1900 b) : GD (dN t b) 2 2 := by
  unfold dN
  split
  · exact (gd_int h1).mono (by decide) (by decide)
  · refine (gd_tuple (k := 1) (m := 0) ?_).mono (by decide) (by simp)
    intro d hd
    rcases List.mem_cons.mp hd with e | hd
    · rw [e]
      exact gd_int h1
    rcases List.mem_cons.mp hd with e | hd
    · rw [e]
      exact gd_int h2
    · cases hd
/-- numbers in a list -/
abbrev Its (H : Hp) : List V → List (Int × Int) → Prop := Paired fun v p => Num H v p.1 p.2 ∧ Bt 200 p.1 ∧ Bt 200 p.2
theorem Its.same {H H' : Hp} (s : Same H H') : ∀ {vs : List V} {ps : List (Int × Int)}, Its H vs ps → Its H' vs ps
  | _, _, .nil => .nil
  | _, _, .cons ⟨h1, h2⟩ t => .cons ⟨h1.same s, h2⟩ (Its.same s t)
theorem Its.go {H H' : Hp} {bx : Addr} {n : Int} (B : Box H bx n) (g : Go bx H H') : ∀ {vs : List V} {ps : List (Int × Int)}, Its H vs ps → Its H' vs ps
  | _, _, .nil => .nil
  | _, _, .cons ⟨h1, h2⟩ t => .cons ⟨h1.go B g, h2⟩ (Its.go B g t)
def dNs (ps : List (Int × Int)) : List PyData := ps.map fun p => dN p.1 p.2
theorem Its.dp {K : PySem.W.Frag} {H : Hp} : ∀ {vs : List V} {ps : List (Int × Int)}, Its H vs ps → DpAll K H vs (dNs ps)
  | _, _, .nil => .nil
  | _, _, .cons h t => .cons h.1.dp (Its.dp t)
theorem Its.gd {H : Hp} : ∀ {vs : List V} {ps : List (Int × Int)}, Its H vs ps → ∀ d ∈ dNs ps, GD d 2 2
  | _, _, .nil, _, hd => nomatch hd
  | _, _, .cons (a := v) (b := p) h t, d, hd => by
    rcases List.mem_cons.mp hd with e | hd
    · rw [e]
      exact gd_num (h.2.1.mono (by decide)) (h.2.2.mono (by decide))
    · exact Its.gd t d hd
theorem Its.len {H : Hp} : ∀ {vs : List V} {ps : List (Int × Int)}, Its H vs ps → vs.length = ps.length
  | _, _, .nil => rfl
  | _, _, .cons _ t => congrArg Nat.succ (Its.len t)
theorem Its.mem {H : Hp} : ∀ {vs : List V} {ps : List (Int × Int)}, Its H vs ps → ∀ {v : V}, v ∈ vs → ∃ t b, Num H v t b ∧ Bt 200 t ∧ Bt 200 b
  | _, _, .nil, _, hv => nomatch hv
  | _, _, .cons (a := v) (b := p) h t, _, hv => by
    rcases List.mem_cons.mp hv with e | hv
    · rw [e]
      exact ⟨p.1, p.2, h⟩
    · exact Its.mem t hv
theorem Its.snoc {H : Hp} {vs : List V} {ps : List (Int × Int)} {v : V} {t b : Int} (h : Its H vs ps) (N : Num H v t b) (B1 : Bt 200 t) (B2 : Bt 200 b) : Its H (vs ++ [v]) (ps ++ [(t, b)]) := Paired.snoc h ⟨N, B1, B2⟩
end HP
namespace HP
open PySem PySem.Spec PyProof.Rows L2
/-! ### numbers as rationals -/
def NQ (H : Hp) (v : V) (q : Rat) : Prop := Num H v q.num (q.den : Int)
structure BQ (n : Nat) (q : Rat) : Prop where
  t : Bt n q.num
  b : Bt n (q.den : Int)
theorem BQ.mono {n m : Nat} {q : Rat} (h : BQ n q) (l : n ≤ m) : BQ m q := ⟨h.t.mono l, h.b.mono l⟩
theorem NQ.same {H H' : Hp} {v : V} {q : Rat} (h : NQ H v q) (s : Same H H') : NQ H' v q := Num.same h s
theorem NQ.go {H H' : Hp} {v : V} {q : Rat} {n : Int} {bx : Addr} (h : NQ H v q) (B : Box H bx n) (s : Go bx H H') : NQ H' v q := Num.go h B s
theorem rat_nd (q : Rat) : q = (q.num : Rat) / ((q.den : Int) : Rat) := by
  rw [← Rat.divInt_eq_div]
  exact (Rat.num_divInt_den q).symm
theorem int_ne {b : Int} (h : b ≠ 0) : (b : Rat) ≠ 0 := fun z => h (by exact_mod_cast z)
theorem den_ne (q : Rat) : ((q.den : Int) : Rat) ≠ 0 := int_ne (by have := q.den_pos; omega)
theorem den_pos' (q : Rat) : 0 < (q.den : Int) := by have := q.den_pos; omega
theorem cop_nd (q : Rat) : cop q.num (q.den : Int) := by
  unfold cop
  rw [Int.natAbs_natCast]
  exact q.reduced
/-- what is lowest of T over B is the rational's own pair -/
theorem nd_of {t b T B : Int} (p : 0 < b) (c : cop t b) (hB : B ≠ 0) (h : t * B = T * b) : t = ((T : Rat) / (B : Rat)).num ∧ b = (((T : Rat) / (B : Rat)).den : Int) := by
  refine low_one p (den_pos' _) c (cop_nd _) ?_
  have h1 := rat_nd ((T : Rat) / (B : Rat))
  have h2 := den_ne ((T : Rat) / (B : Rat))
  have h3 := int_ne hB
  have h5 : (b : Rat) ≠ 0 := int_ne (by omega)
  have h4 : (t : Rat) * (B : Rat) = (T : Rat) * (b : Rat) := by exact_mod_cast h
  generalize ((T : Rat) / (B : Rat)).num = n at *
  generalize (((T : Rat) / (B : Rat)).den : Int) = d at *
  have h6 : (t : Rat) * (d : Rat) = (n : Rat) * (b : Rat) := by grind
  exact_mod_cast h6
theorem Num.nq {H : Hp} {v : V} {t b T B : Int} (N : Num H v t b) (hB : B ≠ 0) (L : Low T B t b) : NQ H v ((T : Rat) / (B : Rat)) := by
  obtain ⟨e1, e2⟩ := nd_of N.pos N.cop hB L.eq
  unfold NQ
  rw [← e1, ← e2]
  exact N
theorem Num.nq' {H : Hp} {v : V} {t b : Int} (N : Num H v t b) : NQ H v ((t : Rat) / (b : Rat)) := N.nq (by have := N.pos; omega) ⟨rfl, Nat.le_refl _, Nat.le_refl _⟩
theorem NQ.is {H : Hp} {v : V} {q r : Rat} (h : NQ H v q) (e : q = r) : NQ H v r := e ▸ h
theorem NQ.int {H : Hp} {i : Int} : NQ H (.int i) (i : Rat) := by
  unfold NQ
  rw [Rat.num_intCast, Rat.den_intCast]
  exact Num.int
theorem NQ.cast {H : Hp} {i : Int} {q : Rat} (e : q = (i : Rat)) : NQ H (.int i) q := by
  rw [e]
  exact NQ.int
theorem BQ.int {n : Nat} {i : Int} (h : Bt n i) (h1 : 1 ≤ n) : BQ n (i : Rat) := ⟨by rw [Rat.num_intCast]; exact h, by rw [Rat.den_intCast]; exact (⟨by decide⟩ : Bt 1 1).mono h1⟩
theorem BQ.of {n : Nat} {T B : Int} (h1 : Bt n T) (h2 : Bt n B) (hB : B ≠ 0) : BQ n ((T : Rat) / (B : Rat)) := by
  obtain ⟨t', b', C⟩ := cut_of (t := T) hB
  obtain ⟨e1, e2⟩ := nd_of C.p C.c hB C.low.eq
  exact ⟨by rw [← e1]; exact h1.le C.low.nt, by rw [← e2]; exact h2.le C.low.nb⟩
theorem BQ.is {n : Nat} {q r : Rat} (h : BQ n q) (e : q = r) : BQ n r := e ▸ h
theorem Bt.add2 {n : Nat} {x y : Int} (h : Bt n x) (k : Bt n y) : Bt (n + 1) (x + y) := ⟨by
  have h1 := h.lt
  have h2 := k.lt
  rw [Nat.pow_succ]
  generalize 2 ^ n = z at h1 h2 ⊢
  omega⟩
theorem Bt.sub2 {n : Nat} {x y : Int} (h : Bt n x) (k : Bt n y) : Bt (n + 1) (x - y) := by
  rw [Int.sub_eq_add_neg]
  exact h.add2 k.neg
theorem q_add (a b : Rat) : a + b = ((a.num * (b.den : Int) + b.num * (a.den : Int) : Int) : Rat) / (((a.den : Int) * (b.den : Int) : Int) : Rat) := by
  have h1 := rat_nd a
  have h2 := rat_nd b
  have h3 := den_ne a
  have h4 := den_ne b
  rw [Rat.intCast_add, Rat.intCast_mul, Rat.intCast_mul, Rat.intCast_mul]
  grind
theorem q_sub (a b : Rat) : a - b = ((a.num * (b.den : Int) - b.num * (a.den : Int) : Int) : Rat) / (((a.den : Int) * (b.den : Int) : Int) : Rat) := by
  have h1 := rat_nd a
  have h2 := rat_nd b
  have h3 := den_ne a
  have h4 := den_ne b
  rw [Rat.intCast_sub, Rat.intCast_mul, Rat.intCast_mul, Rat.intCast_mul]
  grind
theorem q_mul (a b : Rat) : a * b = ((a.num * b.num : Int) : Rat) / (((a.den : Int) * (b.den : Int) : Int) : Rat) := by
  have h1 := rat_nd a
  have h2 := rat_nd b
  have h3 := den_ne a
  have h4 := den_ne b
  rw [Rat.intCast_mul, Rat.intCast_mul]
  grind
theorem num_ne {b : Rat} (hb : b ≠ 0) : b.num ≠ 0 := fun z => hb (by
  rw [rat_nd b, z, Rat.div_def, show ((0 : Int) : Rat) = 0 from rfl]
  exact Rat.zero_mul _)
theorem q_div (a b : Rat) (hb : b ≠ 0) : a / b = ((a.num * (b.den : Int) : Int) : Rat) / (((a.den : Int) * b.num : Int) : Rat) := by
  have h1 := rat_nd a
  have h2 := rat_nd b
  have h3 := den_ne a
  have h4 := den_ne b
  have h5 := int_ne (num_ne hb)
  rw [Rat.intCast_mul, Rat.intCast_mul]
  grind
theorem dd_ne (a b : Rat) : (a.den : Int) * (b.den : Int) ≠ 0 := Int.mul_ne_zero (by have := a.den_pos; omega) (by have := b.den_pos; omega)
theorem dn_ne (a : Rat) {b : Rat} (h : b ≠ 0) : (a.den : Int) * b.num ≠ 0 := Int.mul_ne_zero (by have := a.den_pos; omega) (num_ne h)
theorem BQ.add {n m : Nat} {a b : Rat} (h : BQ n a) (k : BQ m b) : BQ (n + m + 1) (a + b) := by
  rw [q_add]
  refine BQ.of ?_ ((h.b.mul k.b).mono (by omega)) (dd_ne a b)
  have h1 := h.t.mul k.b
  have h2 := k.t.mul h.b
  rw [Nat.add_comm m n] at h2
  exact h1.add2 h2
theorem BQ.sub {n m : Nat} {a b : Rat} (h : BQ n a) (k : BQ m b) : BQ (n + m + 1) (a - b) := by
  rw [q_sub]
  refine BQ.of ?_ ((h.b.mul k.b).mono (by omega)) (dd_ne a b)
  have h1 := h.t.mul k.b
  have h2 := k.t.mul h.b
  rw [Nat.add_comm m n] at h2
  exact h1.sub2 h2
theorem BQ.mul {n m : Nat} {a b : Rat} (h : BQ n a) (k : BQ m b) : BQ (n + m) (a * b) := by
  rw [q_mul]
  exact BQ.of (h.t.mul k.t) (h.b.mul k.b) (dd_ne a b)
theorem BQ.div {n m : Nat} {a b : Rat} (h : BQ n a) (k : BQ m b) (hb : b ≠ 0) : BQ (n + m) (a / b) := by
  rw [q_div a b hb]
  exact BQ.of (h.t.mul k.b) (h.b.mul k.t) (dn_ne a hb)
theorem BQ.neg {n : Nat} {a : Rat} (h : BQ n a) : BQ n (-a) := ⟨by rw [Rat.neg_num]; exact h.t.neg, by rw [Rat.neg_den]; exact h.b⟩
theorem q_lt (a b : Rat) : a < b ↔ a.num * (b.den : Int) < b.num * (a.den : Int) := by
  have h1 := rat_nd a
  have h2 := rat_nd b
  have p1 : (0 : Rat) < ((a.den : Int) : Rat) := by exact_mod_cast den_pos' a
  have p2 : (0 : Rat) < ((b.den : Int) : Rat) := by exact_mod_cast den_pos' b
  have key : (a < b) ↔ ((a.num : Rat) * ((b.den : Int) : Rat) < (b.num : Rat) * ((a.den : Int) : Rat)) := by
    have e1 : (a.num : Rat) = a * ((a.den : Int) : Rat) := by grind
    have e2 : (b.num : Rat) = b * ((b.den : Int) : Rat) := by grind
    rw [e1, e2]
    generalize ((a.den : Int) : Rat) = x at *
    generalize ((b.den : Int) : Rat) = y at *
    have e3 : a * x * y = a * (x * y) := by grind
    have e4 : b * y * x = b * (x * y) := by grind
    rw [e3, e4]
    have p3 : 0 < x * y := Rat.mul_pos p1 p2
    constructor
    · intro h
      exact Rat.mul_lt_mul_of_pos_right h p3
    · intro h
      exact Rat.lt_of_mul_lt_mul_right h (Rat.le_of_lt p3)
  rw [key]
  constructor
  · intro h
    exact_mod_cast h
  · intro h
    exact_mod_cast h
/-! what the defs promise, in rationals -/
def spPairQ : Sp := fun vs H Q _ => ∃ v q, vs = [v] ∧ NQ H v q ∧ ∀ p H', Same H H' → H' p = some (.tup [.int q.num, .int (q.den : Int)]) → Q (.ref p) H'
def spIsNumQ : Sp := fun vs H Q _ => ∃ v q, vs = [v] ∧ NQ H v q ∧ Q (.bl true) H
def spNeedQ : Sp := fun vs H Q _ => ∃ v q, vs = [v] ∧ NQ H v q ∧ Q .non H
def spLowQ : Sp := fun vs H Q _ => ∃ t b : Int, vs = [.int t, .int b] ∧ b ≠ 0 ∧ Bt 8000 t ∧ Bt 8000 b ∧ ∀ v H', Same H H' → NQ H' v ((t : Rat) / (b : Rat)) → Q v H'
def spNegQ : Sp := fun vs H Q _ => ∃ v q, vs = [v] ∧ NQ H v q ∧ ∀ v' H', Same H H' → NQ H' v' (-q) → Q v' H'
def sp2Q (f : Rat → Rat → Rat) : Sp := fun vs H Q _ => ∃ x y a b, vs = [x, y] ∧ NQ H x a ∧ NQ H y b ∧ BQ 2000 a ∧ BQ 2000 b ∧ ∀ v H', Same H H' → NQ H' v (f a b) → Q v H'
def spOverQ : Sp := fun vs H Q _ => ∃ x y a b, vs = [x, y] ∧ NQ H x a ∧ NQ H y b ∧ b ≠ 0 ∧ BQ 2000 a ∧ BQ 2000 b ∧ ∀ v H', Same H H' → NQ H' v (a / b) → Q v H'
def spLessQ : Sp := fun vs H Q _ => ∃ x y a b, vs = [x, y] ∧ NQ H x a ∧ NQ H y b ∧ BQ 4000 a ∧ BQ 4000 b ∧ ∀ H', Same H H' → Q (.bl (decide (a < b))) H'
def spSignQ : Sp := fun vs H Q _ => ∃ v q, vs = [v] ∧ NQ H v q ∧ ∀ H', Same H H' → Q (.int (sgn q.num)) H'
def spBareQ : Sp := fun vs H Q _ => ∃ v q, vs = [v] ∧ NQ H v q ∧ ∀ v' H', Same H H' → NQ H' v' (if q < 0 then -q else q) → Q v' H'
def spIsQ : Sp := fun vs H Q _ => ∃ x y q, vs = [x, y] ∧ NQ H x q ∧ NQ H y q ∧ ∀ H', Same H H' → Q (.bl true) H'
def spDrawnQ : Sp := fun vs H Q _ => ∃ bx n, vs = [.ref bx] ∧ Box H bx n ∧ n < 800000 ∧ ∀ v q H', NQ H' v q → BQ 120 q → Go bx H H' → Box H' bx (n + 100) → Q v H'
theorem im_pair {vs H Q E} (h : spPairQ vs H Q E) : spPair vs H Q E := by
  obtain ⟨v, q, rfl, N, k⟩ := h
  exact ⟨v, _, _, rfl, N, k⟩
theorem im_isnum {vs H Q E} (h : spIsNumQ vs H Q E) : spIsNum vs H Q E := by
  obtain ⟨v, q, rfl, N, k⟩ := h
  exact ⟨v, _, _, rfl, N, k⟩
theorem im_need {vs H Q E} (h : spNeedQ vs H Q E) : spNeed vs H Q E := by
  obtain ⟨v, q, rfl, N, k⟩ := h
  exact ⟨v, _, _, rfl, N, k⟩
theorem im_low {vs H Q E} (h : spLowQ vs H Q E) : spLow vs H Q E := by
  obtain ⟨t, b, rfl, hb, B1, B2, k⟩ := h
  exact ⟨t, b, rfl, hb, B1, B2, fun v H' t' b' S N L => k v H' S (N.nq hb L)⟩
theorem im_neg {vs H Q E} (h : spNegQ vs H Q E) : spNeg vs H Q E := by
  obtain ⟨v, q, rfl, N, k⟩ := h
  refine ⟨v, _, _, rfl, N, fun v' H' S N' => k v' H' S ?_⟩
  unfold NQ
  rw [Rat.neg_num, Rat.neg_den]
  exact N'
theorem im_add {vs H Q E} (h : sp2Q (· + ·) vs H Q E) : spAdd vs H Q E := by
  obtain ⟨x, y, a, b, rfl, N1, N2, B1, B2, k⟩ := h
  refine ⟨x, y, _, _, _, _, rfl, N1, N2, B1.t, B1.b, B2.t, B2.b, fun v H' t' b' S N L => k v H' S ?_⟩
  show NQ H' v (a + b)
  rw [q_add]
  exact N.nq (dd_ne a b) L
theorem im_sub {vs H Q E} (h : sp2Q (· - ·) vs H Q E) : spSub vs H Q E := by
  obtain ⟨x, y, a, b, rfl, N1, N2, B1, B2, k⟩ := h
  refine ⟨x, y, _, _, _, _, rfl, N1, N2, B1.t, B1.b, B2.t, B2.b, fun v H' t' b' S N L => k v H' S ?_⟩
  show NQ H' v (a - b)
  rw [q_sub]
  exact N.nq (dd_ne a b) L
theorem im_mul {vs H Q E} (h : sp2Q (· * ·) vs H Q E) : spMul vs H Q E := by
  obtain ⟨x, y, a, b, rfl, N1, N2, B1, B2, k⟩ := h
  refine ⟨x, y, _, _, _, _, rfl, N1, N2, B1.t, B1.b, B2.t, B2.b, fun v H' t' b' S N L => k v H' S ?_⟩
  show NQ H' v (a * b)
  rw [q_mul]
  exact N.nq (dd_ne a b) L
theorem im_over {vs H Q E} (h : spOverQ vs H Q E) : spOver vs H Q E := by
  obtain ⟨x, y, a, b, rfl, N1, N2, hb, B1, B2, k⟩ := h
  refine ⟨x, y, _, _, _, _, rfl, N1, N2, num_ne hb, B1.t, B1.b, B2.t, B2.b, fun v H' t' b' S N L => k v H' S ?_⟩
  rw [q_div a b hb]
  exact N.nq (dn_ne a hb) L
theorem im_less {vs H Q E} (h : spLessQ vs H Q E) : spLess vs H Q E := by
  obtain ⟨x, y, a, b, rfl, N1, N2, B1, B2, k⟩ := h
  refine ⟨x, y, _, _, _, _, rfl, N1, N2, B1.t, B1.b, B2.t, B2.b, fun H' S => ?_⟩
  have := k H' S
  rw [show decide (a < b) = decide (a.num * (b.den : Int) < b.num * (a.den : Int)) from decide_eq_decide.mpr (q_lt a b)] at this
  exact this
theorem im_sign {vs H Q E} (h : spSignQ vs H Q E) : spSign vs H Q E := by
  obtain ⟨v, q, rfl, N, k⟩ := h
  exact ⟨v, _, _, rfl, N, k⟩
theorem q_neg0 (q : Rat) : q < 0 ↔ q.num < 0 := by
  rw [q_lt q 0]
  show q.num * (1 : Int) < 0 * (q.den : Int) ↔ _
  rw [Int.mul_one, Int.zero_mul]
theorem im_bare {vs H Q E} (h : spBareQ vs H Q E) : spBare vs H Q E := by
  obtain ⟨v, q, rfl, N, k⟩ := h
  refine ⟨v, _, _, rfl, N, fun v' H' S N' => k v' H' S ?_⟩
  unfold NQ
  by_cases z : q < 0
  · rw [if_pos z, Rat.neg_num, Rat.neg_den]
    rw [if_pos ((q_neg0 q).mp z)] at N'
    exact N'
  · rw [if_neg z]
    rw [if_neg (fun y => z ((q_neg0 q).mpr y))] at N'
    exact N'
theorem im_is {vs H Q E} (h : spIsQ vs H Q E) : spIs vs H Q E := by
  obtain ⟨x, y, q, rfl, N1, N2, k⟩ := h
  exact ⟨x, y, _, _, rfl, N1, N2, k⟩
theorem im_drawn {vs H Q E} (h : spDrawnQ vs H Q E) : spDrawn vs H Q E := by
  obtain ⟨bx, n, rfl, BX, hn, k⟩ := h
  refine ⟨bx, n, rfl, BX, hn, fun v t b H' N B1 B2 G BX' => k v _ H' N.nq' (BQ.of B1 B2 (by have := N.pos; omega)) G BX'⟩
theorem NQ.dp {K : PySem.W.Frag} {H : Hp} {v : V} {q : Rat} (h : NQ H v q) : Dp K H v (dN q.num (q.den : Int)) := Num.dp h
section
variable {P : Program} {w : World} {K : PySem.W.Frag} {mg : Str → Option Value} {base : Heap}
theorem Cal.imp {k : Nat} {x : Str} {ps : List Str} {sp sp' : Sp} (c : Cal P w K mg base k x ps sp) (h : ∀ {vs H Q E}, sp' vs H Q E → sp vs H Q E) : Cal P w K mg base k x ps sp' := by
  obtain ⟨f, fd, F, a, b, d⟩ := c.ex
  exact ⟨f, fd, F.imp fun vs H Q E q => ⟨q.1, h q.2⟩, a, b, d⟩
theorem CalK.imp {k : Nat} {x : Str} {ps : List Str} {sp sp' : Sp} {n : Nat} {ks : List Str} {dvs : List V} {perm : List Nat} (c : CalK P w K mg base k x ps sp n ks dvs perm) (h : ∀ {vs H Q E}, sp' vs H Q E → sp vs H Q E) : CalK P w K mg base k x ps sp' n ks dvs perm := by
  obtain ⟨f, fd, mv, F, a, b, d⟩ := c.ex
  exact ⟨f, fd, mv, F.imp fun vs H Q E q => ⟨q.1, h q.2⟩, a, b, d⟩
end
end HP
namespace HP
open PySem PySem.Spec PyProof.Rows L2
/-! ### defs that raise, errors with a field -/
section
variable {P : Program} {w : World} {K : PySem.W.Frag} {mg : Str → Option Value} {base : Heap}
theorem fnX {x : Str} {st : Stmt} {f : Addr} {fd : FuncData} {N ps : List Str} {k : Nat} {sp : Sp} (F : Fun K x x st f fd) (S : FnScope N ps (defScope st))
    (hbody : ∀ (cdv : Value) (A : Around) (outer : List Env) (s : Shared) (H : Hp) (vs : List V) (Q : VK) (E : XK), Room k (A.deeper (envOfC x (defScope st) s.heap.objs.size f cdv)) → sp vs H Q E →
      ∃ t, PSs (cxOf (L2.CX P w) P w K mg base N x (defScope st) f cdv A outer s H E) (defBody st) t ∧ t { nx := fun _ H' => Q .non H', rt := Q } (start N vs) H) : FnOk P w K mg base (L2.CX P w) (k + 1) f fd ps (spN ps.length sp) :=
  F.okX S (fun _ _ _ _ h => h.1) (fun cdv A outer s H vs Q E hr h => hbody cdv A outer s H vs Q E hr h.2)
theorem fnDX {x : Str} {st : Stmt} {dvs : List V} {kws : List (Str × V)} {f : Addr} {fd : FuncData} {N ps : List Str} {k : Nat} {sp : Sp} (F : FunD K x x (defArgs st) (defBody st) (defScope st) dvs kws f fd) (S : FnScope N ps (defScope st))
    (hbody : ∀ (cdv : Value) (A : Around) (outer : List Env) (s : Shared) (H : Hp) (vs : List V) (Q : VK) (E : XK), Room k (A.deeper (envOfC x (defScope st) s.heap.objs.size f cdv)) → sp vs H Q E →
      ∃ t, PSs (cxOf (L2.CX P w) P w K mg base N x (defScope st) f cdv A outer s H E) (defBody st) t ∧ t { nx := fun _ H' => Q .non H', rt := Q } (start N vs) H) : FnOk P w K mg base (L2.CX P w) (k + 1) f fd ps (spN ps.length sp) :=
  F.ok S (fun _ _ _ _ h => h.1) (fun cdv A outer s H vs Q E hr h => hbody cdv A outer s H vs Q E hr h.2)
/-- where nothing is raised -/
def spE0 (sp : Sp) : Sp := fun vs H Q _ => sp vs H Q E0
theorem noraise {k : Nat} {f : Addr} {fd : FuncData} {ps : List Str} {sp : Sp} {n : Nat} (F : FnOk P w K mg base (L2.CX P w) k f fd ps (spN n sp)) : FnOk P w K mg base CX0 k f fd ps (spN n (spE0 sp)) := by
  refine ⟨fun vs H Q E h => F.len vs H Q E0 ⟨h.1, h.2⟩, fun A outer s H ar us vs Q E hr e0 hb r h => ?_⟩
  refine codeAny_mono (F.run A outer s H ar us vs Q E0 hr e0 hb r ⟨h.1, h.2⟩) fun res s' hq => ?_
  cases res with
  | ok fl => cases fl <;> exact hq
  | error e =>
    obtain ⟨_, _, _, _, _, _, _, _, _, _, _, _, z⟩ := (show L2.CX P w outer H s E0 e s' from hq)
    exact z.elim
structure CalX (P : Program) (w : World) (K : PySem.W.Frag) (mg : Str → Option Value) (base : Heap) (k : Nat) (x : Str) (ps : List Str) (sp : Sp) (n : Nat) (ks : List Str) (dvs : List V) (perm : List Nat) : Prop where
  ex : ∃ (f : Addr) (fd : FuncData) (mv : List Value), FnOk P w K mg base (L2.CX P w) k f fd ps (spN ps.length sp) ∧ mg x = some (.ref f) ∧ PySem.W.keepIn K (.ref f) = true ∧ KBn K fd ps n ks (fun us ws => pick perm (us ++ (mv ++ ws))) (fun vs zs => pick perm (vs ++ (dvs ++ zs)))
theorem calX {x : Str} {st : Stmt} {f : Addr} {fd : FuncData} {ps : List Str} {k : Nat} {sp : Sp} (n : FnOk P w K mg base (L2.CX P w) k f fd ps (spN ps.length sp)) (g : mg x = some (.ref f)) (F : Fun K x x st f fd) (m : Nat) (ks : List Str) (perm : List Nat)
    (b : ∀ (kV doc pm : Value) (an : Option Addr) (cdv ct : Value) (us ws : List Value), us.length = m → ws.length = ks.length → bindArgs (PySem.W.fnOf x x (defArgs st) (defBody st) (defScope st) .none kV doc pm an cdv ct) ⟨us, ks.zip ws⟩ = pure (ps.zip (pick perm (us ++ ws)))) : CalX P w K mg base k x ps sp m ks [] perm := by
  obtain ⟨oc, od, kV, doc, pm, an, cdv, ct, osl, rfl, lk, hcd⟩ := F.ex
  exact ⟨f, _, [], n, g, F.kp, ⟨fun s us ws _ l1 l2 => .of_eq (b kV doc pm an cdv ct us ws l1 l2), fun r1 r2 => pick_vals (r1.append r2) perm⟩⟩
theorem calXD {x : Str} {st : Stmt} {kws : List (Str × V)} {f : Addr} {fd : FuncData} {ps : List Str} {k : Nat} {sp : Sp} (n : FnOk P w K mg base (L2.CX P w) k f fd ps (spN ps.length sp)) (g : mg x = some (.ref f)) (F : FunD K x x (defArgs st) (defBody st) (defScope st) [] kws f fd) (m : Nat) (ks : List Str) (ms : List (Str × V)) (perm : List Nat)
    (hk : kws ≠ []) (hms : ∀ q ∈ ms, q ∈ kws)
    (b : ∀ (D : Addr) (doc pm : Value) (an : Option Addr) (cdv ct : Value) (us mv ws : List Value), us.length = m → mv.length = ms.length → ws.length = ks.length →
      KwChain D ((ms.map (·.1)).zip mv) (bindArgs (PySem.W.fnOf x x (defArgs st) (defBody st) (defScope st) .none (.ref D) doc pm an cdv ct) ⟨us, ks.zip ws⟩) (ps.zip (pick perm (us ++ (mv ++ ws))))) : CalX P w K mg base k x ps sp m ks (ms.map (·.2)) perm := by
  obtain ⟨mv, hb⟩ := F.kbinds0 m ks ms (fun {α} us mv ws => pick perm (us ++ (mv ++ ws))) hk hms (fun r1 r2 r3 => pick_vals (r1.append (r2.append r3)) perm) b
  exact ⟨f, fd, mv, n, g, F.kp, hb⟩
theorem CalX.no {k : Nat} {x : Str} {ps : List Str} {sp : Sp} {n : Nat} {ks : List Str} {dvs : List V} {perm : List Nat} (c : CalX P w K mg base k x ps sp n ks dvs perm) : CalK P w K mg base k x ps (spE0 sp) n ks dvs perm := by
  obtain ⟨f, fd, mv, F, a, b, d⟩ := c.ex
  exact ⟨f, fd, mv, noraise F, a, b, d⟩
end
def tCalX (n m np : Nat) (sp : Sp) (dvs : List V) (perm : List Nat) (W : WX) (t tk : TA) : TE := fun σ H Q => t σ H fun vs H1 => tk σ H1 fun zs H2 => vs.length = n ∧ zs.length = m ∧ (pick perm (vs ++ (dvs ++ zs))).length = np ∧ sp (pick perm (vs ++ (dvs ++ zs))) H2 Q (WE W σ)
theorem q_callX {σ : L2.St} {H : Hp} {Q : VK} {n m np : Nat} {sp : Sp} {dvs : List V} {perm : List Nat} {W : WX} {t tk : TA} (q : t σ H fun vs H1 => tk σ H1 fun zs H2 => vs.length = n ∧ zs.length = m ∧ (pick perm (vs ++ (dvs ++ zs))).length = np ∧ sp (pick perm (vs ++ (dvs ++ zs))) H2 Q (WE W σ)) : tCalX n m np sp dvs perm W t tk σ H Q := q
section
variable {X : Cx} {k j n : Nat} {x : Str} {ps ks : List Str} {sp : Sp} {p pos : Pos} {e : Expr} {es : List Expr} {t tk : TA} {dvs : List V} {perm : List Nat} {kws : List Keyword} {W : WX}
theorem pe_calX (C : CalX X.prog X.w X.K X.mg X.base k x ps sp n ks dvs perm) (hr : Room j X.A) (hkj : k ≤ j) (hg : Gl X x) (tW : Takes X W) (ha : PA X (e :: es) t) (hkw : PK X kws tk) (hall : (backToKw pos (keywordEach kws X.env)).all (·.1.isSome) = true := by rfl) (hks : (backToKw pos (keywordEach kws X.env)).filterMap (·.1) = ks := by rfl)
    (hdb : (x == ("__debug__" : Str)) = false := by decide) (he : starEach (e :: es) X.env = (false, eval e X.env) :: starEach es X.env := by rfl)
    (hpl : ((backTo pos (starEach (e :: es) X.env)).any (·.1) || (backToKw pos (keywordEach kws X.env)).any (·.1.isNone)) = false := by rfl) : PE X (.Call (.Name x p) (e :: es) kws pos) (tCalX n ks.length ps.length sp dvs perm W t tk) := by
  obtain ⟨f, fd, mv, F, hm, hk, hb⟩ := C.ex
  refine ⟨fun pins s σ H Q I h => ?_⟩
  refine wpAny_Call_Name_kw (ld_glob I hg hm ?_ hdb)
  refine PySem.W.callWith_KW (h₀ := X.base) I.ok.mod.kin hk hall (thn (ha.run pos pins s σ H _ I h) fun us s1 ⟨vs, H1, I1, r, q⟩ => ?_) hpl he
  refine thn (hkw.run pos pins s1 σ H1 _ I1 q) fun ws s2 ⟨zs, H2, I2, rz, l1, l2, l3, q2⟩ => ⟨I2.kIn, ?_⟩
  rw [hks]
  have r2 := hb.rel r rz
  refine wpAny_call (codeAny_mono (F.run X.A X.stack s2 H2 ⟨us, ks.zip ws⟩ _ _ Q (WE W σ) (hr.mono hkj) I2.env0 (hb.to s2 us ws I2.kIn (r.length.symm.trans l1) (rz.length.symm.trans l2)) r2 ⟨l3, q2⟩) fun res s' hq => ?_)
  match res, hq with
  | .error er, hq => exact passAt tW σ pins H2 s2 er s' I2 hq
  | .ok (.ret u), hq => exact I2.after hq
  | .ok .next, hq => exact False.elim hq
  | .ok .brk, hq => exact False.elim hq
  | .ok .cont, hq => exact False.elim hq
end
/-- an error's class at C, its __init__ at fI -/
structure ErrC (K : PySem.W.Frag) (mg : Str → Option Value) (x : Str) (C fI : Addr) : Prop where
  gm : mg x = some (.ref C)
  ox : OexC K C
  iC : PySem.W.findIn K (.ref C) "__init__" = some (some (.ref fI))
  tI : PySem.W.typeIn K (.ref fI) = some (.type "function")
  xf : XfC K C
  nF : PySem.W.findIn K (.ref C) "found" = some none
  ex : PySem.W.exmOne K (.ref C) (.ref C) = some true
def spErr (C : Addr) : Sp := fun vs H Q _ => ∃ a v, vs = [.ref a, v] ∧ H a = some (exo a C none) ∧ ∀ dx, H dx = none → dx ≠ a → Q .non (upd (upd H dx (exd dx [("found", v)])) a (exo a C (some dx)))
/-- what stands behind the making of an error -/
theorem q_mk {C : Addr} {v : V} {H : Hp} {R : XK} (q : ∀ d H', Same H H' → H d = none → H' d = some (.xd [("found", v)]) → R (.ref C) (some d) H') :
    [v].length ≤ 1000 ∧ ∀ a, H a = none → spN 2 (spErr C) (.ref a :: ([v] ++ [])) (upd H a (exo a C none)) (fun u H2 => u = .non ∧ ∃ (d : Addr) (fs : List (Str × V)), H2 a = some (exo a C (some d)) ∧ H2 d = some (exd d fs) ∧ H d = none ∧ R (.ref C) (some d) (upd (del H2 a) d (.xd fs))) (fun _ _ _ => False) := by
  refine ⟨Nat.le_of_ble_eq_true rfl, fun a na => ⟨rfl, a, v, rfl, upd_same, fun dx nx ne => ⟨rfl, dx, [("found", v)], upd_same, by rw [upd_ne ne, upd_same], ?_, q dx _ (fun b o e => ?_) ?_ upd_same⟩⟩⟩
  · rw [upd_ne ne] at nx
    exact nx
  · rw [upd_ne ne] at nx
    rw [upd_ne (ne_of_none e nx), del_ne (ne_of_none e na), upd_ne (ne_of_none e na), upd_ne (ne_of_none e nx), upd_ne (ne_of_none e na)]
    exact e
  · rw [upd_ne ne] at nx
    exact nx
/-- a class's own error is caught by its name -/
theorem exm_own {K : PySem.W.Frag} {C : Addr} (h1 : PySem.W.subIn K (.ref C) (.type "BaseException") = some true) (h2 : PySem.W.isClsIn K C = true) (h3 : PySem.W.typeIn K (.ref C) = some (.type "type")) (h4 : PySem.W.subIn K (.ref C) (.ref C) = some true) : PySem.W.exmOne K (.ref C) (.ref C) = some true := by
  have e2 : (PySem.W.clsIn K C).isSome = true := h2
  simp [PySem.W.exmOne, PySem.W.kitCls, h1, h3, h4, e2]
end HP
namespace HP
open PySem PySem.Spec PyProof.Rows L2
/-! ### ways and places -/
theorem pe_globI {X : Cx} {x : Str} {i : Int} {pos : Pos} (hg : Gl X x) (h : ∃ t, X.mg x = some (.int i t)) (hd : (x == ("__debug__" : Str)) = false := by decide) : PE X (.Name x pos) (tC (.int i)) := by
  obtain ⟨t, e⟩ := h
  exact pe_glob hg e ⟨t, rfl⟩ hd
section
variable {K : PySem.W.Frag} {H H' : Hp} {a bx : Addr} {xs : List V} {n : Int}
theorem sqt_same (h : SqT K H a xs) (s : Same H H') : SqT K H' a xs := by
  rcases h with (h | ⟨o, h⟩) | h
  · exact .inl (.inl (s _ _ h))
  · exact .inl (.inr ⟨o, s _ _ h⟩)
  · exact .inr h
theorem sqt_go (h : SqT K H a xs) (B : Box H bx n) (s : Go bx H H') : SqT K H' a xs := by
  rcases h with (h | ⟨o, h⟩) | h
  · exact .inl (.inl (s _ _ h (B.ne h)))
  · refine .inl (.inr ⟨o, s _ _ h ?_⟩)
    obtain ⟨_, _, _, h1, _⟩ := B
    exact ne_of h h1 (by intro z; cases z)
  · exact .inr h
theorem sqt_ty (h : SqT K H a xs) : TyX K H (.ref a) (.type "tuple") := by
  rcases h with (h | ⟨o, h⟩) | ⟨o, its, n, h1, h2, _⟩
  · exact .base (.tup h)
  · exact .fTuple h
  · exact .kTuple h1 h2
variable {Q : VK} {v : V}
theorem q_ttS (h : SqT K H a xs) (q : Q (.bl true) H) : rIsi K [.ref a, .ty "tuple"] H Q := q_isi (sqt_ty h) k_tt q
theorem q_tiS (h : SqT K H a xs) (q : Q (.bl false) H) : rIsi K [.ref a, .ty "int"] H Q := q_isi (sqt_ty h) k_ti q
theorem q_S0 (h : SqT K H a xs) (e : xs[0]? = some v) (q : Q v H) : rIxT K (.ref a) (.int 0) H Q := q_ixT (j := 0) h e q
theorem q_S1 (h : SqT K H a xs) (e : xs[1]? = some v) (q : Q v H) : rIxT K (.ref a) (.int 1) H Q := q_ixT (j := 1) h e q
theorem q_S2 (h : SqT K H a xs) (e : xs[2]? = some v) (q : Q v H) : rIxT K (.ref a) (.int 2) H Q := q_ixT (j := 2) h e q
theorem q_par3 {σ : L2.St} {D : Ends} {i j l : Nat} {ta : TA} (q : ta σ H fun vs H1 => ∃ u v w, vs = [u, v, w] ∧ D.nx (((σ.set i (some u)).set j (some v)).set l (some w)) H1) : tPar3 i j l ta D σ H := q
theorem q_three {u v w : V} {R : V → V → V → Prop} (q : R u v w) : ∃ u' v' w', [u, v, w] = [u', v', w'] ∧ R u' v' w' := ⟨u, v, w, rfl, q⟩
end
theorem q_mkO {C : Addr} {sp : Sp} {dvs : List V} {ta : TA} {σ : L2.St} {H : Hp} {R : XK} (q : ta σ H fun vs H1 => vs.length ≤ 1000 ∧ ∀ a, H1 a = none → sp (.ref a :: (vs ++ dvs)) (upd H1 a (exo a C none)) (fun u H2 => u = .non ∧ ∃ (d : Addr) (fs : List (Str × V)), H2 a = some (exo a C (some d)) ∧ H2 d = some (exd d fs) ∧ H1 d = none ∧ R (.ref C) (some d) (upd (del H2 a) d (.xd fs))) (fun _ _ _ => False)) : tMkO C sp dvs ta σ H R := q
def Way (K : PySem.W.Frag) (H : Hp) (v : V) (a b l : Int) : Prop := ∃ p, v = .ref p ∧ SqT K H p [.int a, .int b, .int l] ∧ 1 ≤ l ∧ l ≤ 1000 ∧ a * a + b * b = l * l
def Pl (K : PySem.W.Frag) (H : Hp) (v : V) (x y : Rat) : Prop := ∃ p vx vy, v = .ref p ∧ SqT K H p [vx, vy] ∧ NQ H vx x ∧ NQ H vy y
theorem Way.same {K : PySem.W.Frag} {H H' : Hp} {v : V} {a b l : Int} (h : Way K H v a b l) (s : Same H H') : Way K H' v a b l := by
  obtain ⟨p, h1, h2, h3⟩ := h
  exact ⟨p, h1, (sqt_same h2 s), h3⟩
theorem Way.go {K : PySem.W.Frag} {H H' : Hp} {v : V} {a b l n : Int} {bx : Addr} (h : Way K H v a b l) (B : Box H bx n) (s : Go bx H H') : Way K H' v a b l := by
  obtain ⟨p, h1, h2, h3⟩ := h
  exact ⟨p, h1, (sqt_go h2 B s), h3⟩
theorem Pl.same {K : PySem.W.Frag} {H H' : Hp} {v : V} {x y : Rat} (h : Pl K H v x y) (s : Same H H') : Pl K H' v x y := by
  obtain ⟨p, vx, vy, h1, h2, h3, h4⟩ := h
  exact ⟨p, vx, vy, h1, (sqt_same h2 s), h3.same s, h4.same s⟩
theorem Pl.go {K : PySem.W.Frag} {H H' : Hp} {v : V} {x y : Rat} {n : Int} {bx : Addr} (h : Pl K H v x y) (B : Box H bx n) (s : Go bx H H') : Pl K H' v x y := by
  obtain ⟨p, vx, vy, h1, h2, h3, h4⟩ := h
  exact ⟨p, vx, vy, h1, (sqt_go h2 B s), h3.go B s, h4.go B s⟩
theorem way_le {a b l : Int} (h0 : 1 ≤ l) (h1 : l ≤ 1000) (h : a * a + b * b = l * l) : (-1000 ≤ a ∧ a ≤ 1000) ∧ (-1000 ≤ b ∧ b ≤ 1000) := by
  have hl : l * l ≤ 1000 * 1000 := Int.mul_le_mul h1 h1 (by omega) (by decide)
  have sq : ∀ x y : Int, x * x + y * y ≤ 1000000 → -1000 ≤ x ∧ x ≤ 1000 := by
    intro x y hxy
    have hy : 0 ≤ y * y := by
      rcases Int.le_total 0 y with z | z
      · exact Int.mul_nonneg z z
      · exact Int.mul_nonneg_of_nonpos_of_nonpos z z
    constructor
    · rcases Int.lt_or_le x (-1000) with z | z
      · have := Int.mul_le_mul (show 1001 ≤ -x by omega) (show 1001 ≤ -x by omega) (by decide) (by omega)
        rw [Int.neg_mul_neg] at this
        omega
      · exact z
    · rcases Int.lt_or_le 1000 x with z | z
      · have := Int.mul_le_mul (show 1001 ≤ x by omega) (show 1001 ≤ x by omega) (by decide) (by omega)
        omega
      · exact z
  exact ⟨sq a b (by omega), sq b a (by omega)⟩
theorem bt11 {x : Int} (h : -1000 ≤ x ∧ x ≤ 1000) : Bt 11 x := ⟨by
  have : (2 : Nat) ^ 11 = 2048 := by decide
  rw [this]
  omega⟩
structure WayB (a b l : Int) : Prop where
  ba : Bt 11 a
  bb : Bt 11 b
  bl : Bt 11 l
  l0 : l ≠ 0
  lp : 1 ≤ l
  l1 : l ≤ 1000
  e : a * a + b * b = l * l
theorem Way.bd {K : PySem.W.Frag} {H : Hp} {v : V} {a b l : Int} (h : Way K H v a b l) : WayB a b l := by
  obtain ⟨p, _, _, h0, h1, h⟩ := h
  obtain ⟨ha, hb⟩ := way_le h0 h1 h
  exact ⟨bt11 ha, bt11 hb, bt11 (by omega), by omega, h0, h1, h⟩
def spIsPl (K : PySem.W.Frag) : Sp := fun vs H Q _ => ∃ v x y, vs = [v] ∧ Pl K H v x y ∧ ∀ H', Same H H' → Q (.bl true) H'
def spNeedPl (K : PySem.W.Frag) : Sp := fun vs H Q _ => ∃ v x y, vs = [v] ∧ Pl K H v x y ∧ ∀ H', Same H H' → Q .non H'
def spIsWhole : Sp := fun vs H Q _ => ∃ i lo hi, vs = [.int i, .int lo, .int hi] ∧ lo ≤ i ∧ i ≤ hi ∧ Q (.bl true) H
def spIsWay (K : PySem.W.Frag) : Sp := fun vs H Q _ => ∃ v a b l, vs = [v] ∧ Way K H v a b l ∧ Q (.bl true) H
def spNeedWay (K : PySem.W.Frag) : Sp := fun vs H Q _ => ∃ v a b l, vs = [v] ∧ Way K H v a b l ∧ Q .non H
def slid (x t : Rat) (a l : Int) : Rat := x + t * (a : Rat) / (l : Rat)
def spSlide (K : PySem.W.Frag) : Sp := fun vs H Q _ => ∃ v u w x y t a b l, vs = [v, u, w] ∧ Pl K H v x y ∧ NQ H u t ∧ Way K H w a b l ∧ BQ 600 x ∧ BQ 600 y ∧ BQ 600 t ∧ ∀ p H', Same H H' → Pl K H' (.ref p) (slid x t a l) (slid y t b l) → Q (.ref p) H'
def gain (a b c d : Int) : Int := a * c + b * d
def farr (t : Rat) (l m g : Int) : Rat := t * ((l * m : Int) : Rat) / (g : Rat)
def spMoved (K : PySem.W.Frag) (C : Addr) : Sp := fun vs H Q E => ∃ v u w z x y t a b l c d m, vs = [v, u, w, z] ∧ Pl K H v x y ∧ NQ H u t ∧ Way K H w a b l ∧ Way K H z c d m ∧ BQ 400 x ∧ BQ 400 y ∧ BQ 400 t ∧
  (gain a b c d ≠ 0 → ∀ p H', Same H H' → Pl K H' (.ref p) (slid x (farr t l m (gain a b c d)) a l) (slid y (farr t l m (gain a b c d)) b l) → Q (.ref p) H') ∧
  (gain a b c d = 0 → ∀ e p H', Same H H' → H e = none → H' p = some (.tup [w, z]) → H' e = some (.xd [("found", .ref p)]) → E (.ref C) (some e) H')
end HP
namespace HP
open PySem PySem.Spec PyProof.Rows L2
/-! .. of a law -/
def spSlope (K : PySem.W.Frag) : Sp := fun vs H Q _ => ∃ bx n, vs = [.ref bx] ∧ Box H bx n ∧ n < 900000 ∧ ∀ v a b l H', Way K H' v a b l → Go bx H H' → Box H' bx (n + 20) → Q v H'
def meas (x y : Rat) (a b l : Int) : Rat := (x * (a : Rat) + y * (b : Rat)) * (((1 : Int) : Rat) / (l : Rat))
def spMeasL (K : PySem.W.Frag) : Sp := fun vs H Q _ => ∃ v w x y a b l, vs = [v, w] ∧ Pl K H v x y ∧ Way K H w a b l ∧ BQ 700 x ∧ BQ 700 y ∧ ∀ u H', Same H H' → NQ H' u (meas x y a b l) → Q u H'
def spPlainPl (K : PySem.W.Frag) : Sp := fun vs H Q _ => ∃ v x y, vs = [v] ∧ Pl K H v x y ∧ BQ 900 x ∧ BQ 900 y ∧ ∀ H', Same H H' → Q (.bl true) H'
def spMovedR (K : PySem.W.Frag) : Sp := fun vs H Q _ => ∃ f v u w z x y t a b l c d m, vs = [f, v, u, w, z] ∧ gain a b c d ≠ 0 ∧ Pl K H f (slid x (farr t l m (gain a b c d)) a l) (slid y (farr t l m (gain a b c d)) b l) ∧ Pl K H v x y ∧ NQ H u t ∧ Way K H w a b l ∧ Way K H z c d m ∧
  BQ 130 x ∧ BQ 130 y ∧ BQ 130 t ∧ ∀ H', Same H H' → Q (.bl true) H'
def spRefused (K : PySem.W.Frag) : Sp := fun vs H Q _ => ∃ v u w z x y t a b l c d m, vs = [v, u, w, z] ∧ gain a b c d = 0 ∧ Pl K H v x y ∧ NQ H u t ∧ Way K H w a b l ∧ Way K H z c d m ∧ BQ 130 x ∧ BQ 130 y ∧ BQ 130 t ∧ ∀ H', Same H H' → Q (.bl true) H'
def spRight9 (K : PySem.W.Frag) : Sp := fun vs H Q _ => ∃ v u w z x y t a b l c d m, vs = [v, u, w, z] ∧ Pl K H v x y ∧ NQ H u t ∧ Way K H w a b l ∧ Way K H z c d m ∧ BQ 130 x ∧ BQ 130 y ∧ BQ 130 t ∧ ∀ H', Same H H' → Q (.bl true) H'
def spLeftOut (K : PySem.W.Frag) : Sp := fun vs H Q _ => ∃ v u w x y t a b l, vs = [v, u, w] ∧ Pl K H v x y ∧ NQ H u t ∧ Way K H w a b l ∧ BQ 130 x ∧ BQ 130 y ∧ BQ 130 t ∧ ∀ H', Same H H' → Q (.bl true) H'
theorem slid_meas {x y t : Rat} {a b l c d m : Int} (hl : l ≠ 0) (hm : m ≠ 0) (hg : gain a b c d ≠ 0) : meas (slid x (farr t l m (gain a b c d)) a l) (slid y (farr t l m (gain a b c d)) b l) c d m = meas x y c d m + t := by
  have h1 := int_ne hl
  have h2 := int_ne hm
  have h3 := int_ne hg
  have e : ((gain a b c d : Int) : Rat) = (a : Rat) * (c : Rat) + (b : Rat) * (d : Rat) := by
    unfold gain
    rw [Rat.intCast_add, Rat.intCast_mul, Rat.intCast_mul]
  unfold meas slid farr
  rw [Rat.intCast_mul, show ((1 : Int) : Rat) = 1 from rfl]
  generalize ((gain a b c d : Int) : Rat) = g at *
  grind
theorem slid_line {x y f : Rat} {a b l : Int} : (slid x f a l + x * ((0 - 1 : Int) : Rat)) * (b : Rat) = (slid y f b l + y * ((0 - 1 : Int) : Rat)) * (a : Rat) := by
  unfold slid
  rw [show ((0 - 1 : Int) : Rat) = -1 from rfl]
  grind
theorem slid_back {x t : Rat} {a l m g : Int} : slid (slid x (farr t l m g) a l) (farr (t * ((0 - 1 : Int) : Rat)) l m g) a l = x := by
  unfold slid farr
  rw [show ((0 - 1 : Int) : Rat) = -1 from rfl]
  grind
theorem bq_slid {x f : Rat} {n k : Nat} {a' l' : Int} (h : BQ n x) (hf : BQ k f) (ha : Bt 11 a') (hl : Bt 11 l') (h0 : l' ≠ 0) : BQ (n + (k + 11 + 11) + 1) (slid x f a' l') :=
  h.add ((hf.mul (BQ.int ha (by decide))).div (BQ.int hl (by decide)) (int_ne h0))
theorem bq_farr {t : Rat} {n : Nat} {l m a b c d : Int} (h : BQ n t) (hl : Bt 11 l) (hm : Bt 11 m) (ha : Bt 11 a) (hb : Bt 11 b) (hc : Bt 11 c) (hd : Bt 11 d) (hg : gain a b c d ≠ 0) : BQ (n + 22 + 23) (farr t l m (gain a b c d)) :=
  (h.mul (BQ.int (hl.mul hm) (by decide))).div (BQ.int (n := 23) ((ha.mul hc).add2 (hb.mul hd)) (by decide)) (int_ne hg)
/-- the data of places, of ways -/
def dP (x y : Rat) : PyData := .tuple [dN x.num (x.den : Int), dN y.num (y.den : Int)]
def dW (a b l : Int) : PyData := .tuple [.int a, .int b, .int l]
theorem Pl.dp {K : PySem.W.Frag} {H : Hp} {v : V} {x y : Rat} (h : Pl K H v x y) : Dp K H v (dP x y) := by
  obtain ⟨p, vx, vy, rfl, h1, h2, h3⟩ := h
  exact .tup h1 (.cons h2.dp (.cons h3.dp .nil))
theorem Way.dp {K : PySem.W.Frag} {H : Hp} {v : V} {a b l : Int} (h : Way K H v a b l) : Dp K H v (dW a b l) := by
  obtain ⟨p, rfl, h1, _⟩ := h
  exact .tup h1 (.cons (.int _) (.cons (.int _) (.cons (.int _) .nil)))
theorem gd_pl {x y : Rat} (h1 : BQ 1900 x) (h2 : BQ 1900 y) : GD (dP x y) 3 6 := by
  refine (gd_tuple (k := 2) (m := 2) ?_).mono (by decide) (by simp)
  intro d hd
  rcases List.mem_cons.mp hd with e | hd
  · rw [e]
    exact gd_num h1.t h1.b
  rcases List.mem_cons.mp hd with e | hd
  · rw [e]
    exact gd_num h2.t h2.b
  · cases hd
theorem gd_way {a b l : Int} (h1 : Bt 1900 a) (h2 : Bt 1900 b) (h3 : Bt 1900 l) : GD (dW a b l) 2 3 := by
  refine (gd_tuple (k := 1) (m := 0) ?_).mono (by decide) (by simp)
  intro d hd
  rcases List.mem_cons.mp hd with e | hd
  · rw [e]
    exact gd_int h1
  rcases List.mem_cons.mp hd with e | hd
  · rw [e]
    exact gd_int h2
  rcases List.mem_cons.mp hd with e | hd
  · rw [e]
    exact gd_int h3
  · cases hd
theorem q_eqGD {K : PySem.W.Frag} {H : Hp} {Q : VK} {u v : V} {d : PyData} {k m : Nat} (h1 : Dp K H u d) (h2 : Dp K H v d) (g : GD d k m) (hk : k ≤ 64) (q : Q (.bl true) H) : rEqD K u v H Q :=
  ⟨d, d, h1, h2, g.shaped hk, g.shaped hk, by rw [show PyData.eqv d d = true from SeqAt.eqv_refl _ g.c]; exact q⟩
theorem q_neGD {K : PySem.W.Frag} {H : Hp} {Q : VK} {u v : V} {d : PyData} {k m : Nat} (h1 : Dp K H u d) (h2 : Dp K H v d) (g : GD d k m) (hk : k ≤ 64) (q : Q (.bl false) H) : rNeD K u v H Q :=
  ⟨d, d, h1, h2, g.shaped hk, g.shaped hk, by rw [show PyData.eqv d d = true from SeqAt.eqv_refl _ g.c]; exact q⟩
end HP
namespace HP
open PySem PySem.Spec PyProof.Rows L2
theorem wayb {a b l : Int} (h : a * a + b * b = l * l) (h0 : 1 ≤ l) (h1 : l ≤ 1000) : WayB a b l := by
  obtain ⟨ha, hb⟩ := way_le h0 h1 h
  exact ⟨bt11 ha, bt11 hb, bt11 (by omega), by omega, h0, h1, h⟩
theorem WayB.way {K : PySem.W.Frag} {H : Hp} {p : Addr} {a b l : Int} (h : WayB a b l) (hp : SqT K H p [.int a, .int b, .int l]) : Way K H (.ref p) a b l := ⟨p, rfl, hp, h.lp, h.l1, h.e⟩
theorem sign_sq {x y l s1 s2 : Int} (e1 : s1 * s1 = 1) (e2 : s2 * s2 = 1) (h : x * x + y * y = l * l) : x * s1 * (x * s1) + y * s2 * (y * s2) = l * l := by
  rw [show x * s1 * (x * s1) = x * x * (s1 * s1) by ac_rfl, show y * s2 * (y * s2) = y * y * (s2 * s2) by ac_rfl, e1, e2, Int.mul_one, Int.mul_one]
  exact h
theorem thou {s : Int} (h1 : 1 ≤ s) (h2 : s ≤ 1000) : 0 < Int.fdiv 1000 s ∧ Int.fdiv 1000 s ≤ 1000 ∧ ∀ d, 0 ≤ d → d < Int.fdiv 1000 s → s * (1 + d) ≤ 1000 := by
  rw [Int.fdiv_eq_ediv_of_nonneg _ (by omega)]
  have hd := Int.mul_ediv_self_le (x := 1000) (k := s) (by omega)
  refine ⟨by have := (Int.le_ediv_iff_mul_le (show 0 < s by omega)).mpr (show 1 * s ≤ 1000 by omega); omega, Int.ediv_le_self _ (by decide), fun d _ h => ?_⟩
  exact Int.le_trans (Int.mul_le_mul_of_nonneg_left (show 1 + d ≤ 1000 / s by omega) (by omega)) hd
theorem sq_sum {m n : Int} (a : 2 ≤ m) (b : m ≤ 21) (c : 1 ≤ n) (d : n ≤ 19) : 1 ≤ m * m + n * n ∧ m * m + n * n ≤ 1000 := by
  have h1 := Int.mul_le_mul b b (by omega) (by decide)
  have h2 := Int.mul_le_mul d d (by omega) (by decide)
  have h3 := Int.mul_nonneg (show 0 ≤ m by omega) (show 0 ≤ m by omega)
  have h4 := Int.mul_pos (show 0 < n by omega) (show 0 < n by omega)
  omega
theorem bq_meas {x y : Rat} {n k : Nat} {a b l : Int} (h1 : BQ n x) (h2 : BQ k y) (w : WayB a b l) : BQ (n + 11 + (k + 11) + 1 + 11) (meas x y a b l) :=
  ((h1.mul (BQ.int w.ba (by decide))).add (h2.mul (BQ.int w.bb (by decide)))).mul (BQ.of ((⟨by decide⟩ : Bt 1 1).mono (by decide)) w.bl w.l0)
theorem slid_e {x t : Rat} : slid x (farr t 1 1 (gain 1 0 1 0)) 1 1 = x + t := by
  have e : farr t 1 1 (gain 1 0 1 0) = t := by
    unfold farr
    rw [show ((1 * 1 : Int) : Rat) = 1 from rfl, show ((gain 1 0 1 0 : Int) : Rat) = 1 from rfl]
    grind
  rw [e]
  unfold slid
  rw [show ((1 : Int) : Rat) = 1 from rfl]
  grind
theorem slid_0 {y f : Rat} {l : Int} : slid y f 0 l = y := by
  unfold slid
  rw [show ((0 : Int) : Rat) = 0 from rfl]
  grind
theorem gain_e {a b : Int} : gain a b 1 0 = a := by
  unfold gain
  omega
theorem gain_e' {a b : Int} : gain 1 0 a b = a := by
  unfold gain
  omega
end HP
namespace HP
theorem sq_nn (x : Int) : 0 ≤ x * x := by
  rcases Int.le_total 0 x with z | z
  · exact Int.mul_nonneg z z
  · exact Int.mul_nonneg_of_nonpos_of_nonpos z z
theorem pyth {m n k : Int} : ((if m * m - n * n < 0 then -(m * m - n * n) else m * m - n * n) * k) * ((if m * m - n * n < 0 then -(m * m - n * n) else m * m - n * n) * k) + (2 * m * n * k) * (2 * m * n * k) = ((m * m + n * n) * k) * ((m * m + n * n) * k) := by
  split <;> grind
end HP
namespace HP
open PySem PySem.Spec PyProof.Rows L2
theorem op_eqDs {X : Cx} {a : Addr} {l : List (Addr × Obj)} (hu : X.A.units + 64 < cLine) : OpR (X.suite a l) (compareOp .Eq) (rEqD X.K) := op_eqD (X := X.suite a l) hu
end HP
namespace HP
open PySem PySem.Spec PyProof.Rows L2
theorem q_xfV {i : Nat} {a C e : Addr} {f : Str} {σ : L2.St} {H : Hp} {Q : VK} {fs : List (Str × V)} {v : V} (hs : σ[i]? = some (some (.ref a))) (he : H e = some (.xd fs)) (hl : fs.lookup f = some v) (q : Q v H) : tXf a (.ref C) (some e) C f (tVar i) σ H Q :=
  ⟨.ref a, hs, rfl, rfl, e, fs, v, rfl, he, hl, q⟩
theorem gd_ways {a b l c d m : Int} (h1 : WayB a b l) (h2 : WayB c d m) : GD (.tuple [dW a b l, dW c d m]) 3 9 := by
  refine (gd_tuple (k := 2) (m := 3) ?_).mono (by decide) (by simp)
  intro e he
  rcases List.mem_cons.mp he with z | he
  · rw [z]
    exact gd_way (h1.ba.mono (by decide)) (h1.bb.mono (by decide)) (h1.bl.mono (by decide))
  rcases List.mem_cons.mp he with z | he
  · rw [z]
    exact gd_way (h2.ba.mono (by decide)) (h2.bb.mono (by decide)) (h2.bl.mono (by decide))
  · cases he
end HP
namespace HP
open PySem PySem.Spec PyProof.Rows L2
theorem q_Lat2 {K : PySem.W.Frag} {H : Hp} {Q : VK} {p : Addr} {u v : V} {c : Bool} (h : H p = some (.lst [u, v])) (q : ∀ w, w = u ∨ w = v → Q w H) : rIxL K (.ref p) (.int (if c = true then 1 else 0)) H Q := by
  cases c
  · exact q_ixL (j := 0) (SqL.of h) rfl (q _ (.inl rfl))
  · exact q_ixL (j := 1) (SqL.of h) rfl (q _ (.inr rfl))
end HP
namespace HP
open PySem PySem.Spec PyProof.Rows L2
/-! ### whole roots, calls of guarded defs, things that are ways or none -/
def rIsqrt : List V → Hp → VK → Prop := fun xs H Q => ∃ a : Int, xs = [.int a] ∧ 0 ≤ a ∧ a.toNat.log2 ≤ 13000 ∧ Q (.int ((Float64.isqrt a.toNat : Nat) : Int)) H
theorem cr_isqrt {X : Cx} : CallR X (.builtin "math.isqrt") rIsqrt := by
  intro pins s σ H vs us Q I r h
  obtain ⟨a, rfl, h0, h1, q⟩ := h
  obtain ⟨u, rfl, rx⟩ := vals1 r
  obtain ⟨t, rfl⟩ := (show ∃ t, u = Value.int a t from rx)
  exact PySem.call_function_meets PySem.W.MGF.kind_isqrt PySem.W.MGF.plain_isqrt PySem.W.MGF.entry_isqrt (PySem.W.MGF.args_isqrt _) (PySem.W.mg_run_isqrt a t (by omega) (by omega) (by omega)).meets ⟨.int _, H, I.tok _, ⟨_, rfl⟩, q⟩
theorem isq_fin : ∀ n : Fin 1001, Float64.isqrt (n.val * n.val) = n.val := by decide +kernel
theorem isq {l : Int} (h0 : 1 ≤ l) (h1 : l ≤ 1000) : ((Float64.isqrt (l * l).toNat : Nat) : Int) = l := by
  obtain ⟨n, rfl⟩ := Int.eq_ofNat_of_zero_le (show 0 ≤ l by omega)
  have e := isq_fin ⟨n, by omega⟩
  rw [show ((n : Int) * (n : Int)).toNat = n * n by rw [← Int.natCast_mul, Int.toNat_natCast]]
  exact_mod_cast e
structure CalG (P : Program) (w : World) (K : PySem.W.Frag) (mg : Str → Option Value) (base : Heap) (k : Nat) (x : Str) (ps : List Str) (sp : Sp) : Prop where
  ex : ∃ (f : Addr) (fd : FuncData), FnG P w K mg base k f fd ps (spN ps.length sp) ∧ mg x = some (.ref f) ∧ PySem.W.keepIn K (.ref f) = true ∧ Binds K fd ps []
theorem calGN {P : Program} {w : World} {K : PySem.W.Frag} {mg : Str → Option Value} {base : Heap} {x : Str} {st : Stmt} {f : Addr} {fd : FuncData} {ps : List Str} {k : Nat} {sp : Sp} (n : FnG P w K mg base k f fd ps (spN ps.length sp)) (g : mg x = some (.ref f)) (F : Fun K x x st f fd)
    (b : ∀ (kV doc pm : Value) (an : Option Addr) (cdv ct : Value) (us : List Value), us.length = ps.length → bindArgs (PySem.W.fnOf x x (defArgs st) (defBody st) (defScope st) .none kV doc pm an cdv ct) ⟨us, []⟩ = pure (ps.zip us)) : CalG P w K mg base k x ps sp :=
  ⟨f, fd, n, g, F.kp, F.binds b⟩
section
variable {X : Cx} {k j : Nat} {x : Str} {ps : List Str} {sp : Sp} {p pos : Pos} {e : Expr} {es : List Expr} {t : TA}
theorem pe_calG (C : CalG X.prog X.w X.K X.mg X.base k x ps sp) (hgd : X.A.guards = some []) (hr : Room j X.A) (hkj : k ≤ j) (hg : Gl X x) (ha : PA X (e :: es) t) (hdb : (x == ("__debug__" : Str)) = false := by decide)
    (he : starEach (e :: es) X.env = (false, eval e X.env) :: starEach es X.env := by rfl) (hpl : (backTo pos (starEach es X.env)).any (·.1) = false := by rfl) : PE X (.Call (.Name x p) (e :: es) [] pos) (tCal ps.length sp t) := by
  obtain ⟨f, fd, F, hm, hk, hb⟩ := C.ex
  refine ⟨fun pins s σ H Q I h => ?_⟩
  refine wpAny_Call_Name_kw (ld_glob I hg hm ?_ hdb)
  refine PySem.W.callWith_K (h₀ := X.base) I.ok.mod.kin hk (thn (ha.run pos pins s σ H _ I h) fun us s1 ⟨vs, H1, I1, r, q⟩ => ⟨I1.kIn, ?_⟩) he hpl
  have len := q.1
  refine wpAny_call (codeAny_mono (F.run X.A X.stack s1 H1 ⟨us, []⟩ us vs Q E0 hgd (hr.mono hkj) I1.env0 (by
    have z := hb s1 us I1.kIn (by rw [List.append_nil]; exact r.length.symm.trans len)
    rw [List.append_nil] at z
    exact z) r ⟨len, q.2⟩) fun res s' hq => ?_)
  match res, hq with
  | .error er, hq => exact False.elim hq
  | .ok (.ret u), hq => exact I1.after hq
  | .ok .next, hq => exact False.elim hq
  | .ok .brk, hq => exact False.elim hq
  | .ok .cont, hq => exact False.elim hq
end
theorem k_ss : kitB "str" "tuple" = some false := by decide +kernel
theorem k_nt : kitB "NoneType" "tuple" = some false := by decide +kernel
theorem k_dt : kitB "dict" "tuple" = some false := by decide +kernel
theorem k_lt : kitB "list" "tuple" = some false := by decide +kernel
theorem k_si : kitB "str" "int" = some false := by decide +kernel
theorem k_bi : kitB "bool" "int" = some true := by decide +kernel
theorem k_bb : kitB "bool" "bool" = some true := by decide +kernel
/-- what is no whole number -/
inductive Odd (K : PySem.W.Frag) (H : Hp) : V → PyData → Prop where
  | bl (b : Bool) : Odd K H (.bl b) (.bool b)
  | str (s : Str) (ok : PyData.canLay0 (.str s) = true) : Odd K H (.str s) (.str s)
  | tup {p : Addr} {a b : Int} (h : SqT K H p [.int a, .int b]) : Odd K H (.ref p) (.tuple [.int a, .int b])
def IO (K : PySem.W.Frag) (H : Hp) (v : V) : Prop := (∃ i, v = .int i) ∨ ∃ d, Odd K H v d
def spIsIntG (K : PySem.W.Frag) : Sp := fun vs H Q _ => ∃ v, vs = [v] ∧ ((∃ i, v = .int i ∧ Q (.bl true) H) ∨ ∃ d, Odd K H v d ∧ Q (.bl false) H)
theorem q_isintG {K : PySem.W.Frag} {i : Int} {H : Hp} {Q : VK} {E : XK} (q : Q (.bl true) H) : spIsIntG K [.int i] H Q E := ⟨_, rfl, .inl ⟨i, rfl, q⟩⟩
def spIsWholeG (K : PySem.W.Frag) : Sp := fun vs H Q _ => ∃ v lo hi, vs = [v, .int lo, .int hi] ∧ ((∃ i, v = .int i ∧ Q (.bl (decide (lo ≤ i ∧ i ≤ hi))) H) ∨ ∃ d, Odd K H v d ∧ Q (.bl false) H)
/-- a thing, and whether it is a way -/
inductive WT (K : PySem.W.Frag) (H : Hp) : V → Bool → Prop where
  | tri {p : Addr} {a b l : Int} (h : SqT K H p [.int a, .int b, .int l]) (ba : Bt 500 a) (bb : Bt 500 b) : WT K H (.ref p) (decide (1 ≤ l ∧ l ≤ 1000 ∧ a * a + b * b = l * l))
  | odd {p : Addr} {u1 u2 u3 : V} (h : SqT K H p [u1, u2, u3]) (k1 : IO K H u1) (k2 : IO K H u2) (k3 : IO K H u3) (o : (∃ d, Odd K H u1 d) ∨ (∃ d, Odd K H u2 d) ∨ ∃ d, Odd K H u3 d) : WT K H (.ref p) false
  | few {p : Addr} {xs : List V} (h : SqT K H p xs) (n : xs.length ≠ 3) : WT K H (.ref p) false
  | nt {v : V} {n : String} (t : TyX K H v (.type n)) (e : kitB n "tuple" = some false) : WT K H v false
theorem odd_int {K : PySem.W.Frag} {H : Hp} {i : Int} {d : PyData} (h : Odd K H (.int i) d) : False := by cases h
def spIsWayG (K : PySem.W.Frag) : Sp := fun vs H Q _ => ∃ v c, vs = [v] ∧ WT K H v c ∧ Q (.bl c) H
theorem Way.wt {K : PySem.W.Frag} {H : Hp} {v : V} {a b l : Int} (h : Way K H v a b l) : WT K H v true := by
  have w := h.bd
  obtain ⟨p, rfl, h1, h2, h3, h4⟩ := h
  have := WT.tri h1 (w.ba.mono (by decide)) (w.bb.mono (by decide))
  rw [decide_eq_true ⟨h2, h3, h4⟩] at this
  exact this
def spHasWay (K : PySem.W.Frag) : Sp := fun vs H Q _ => ∃ a b, vs = [.int a, .int b] ∧ Bt 200 a ∧ Bt 200 b ∧ ((∃ l, WayB a b l) → ∀ H', Same H H' → Q (.bl true) H') ∧ ((∀ l, ¬ WayB a b l) → ∀ H', Same H H' → Q (.bl false) H')
def spWayOf (K : PySem.W.Frag) (C : Addr) : Sp := fun vs H Q E => ∃ a b, vs = [.int a, .int b] ∧ Bt 200 a ∧ Bt 200 b ∧
  (∀ l, WayB a b l → ∀ p H', Same H H' → H' p = some (.tup [.int a, .int b, .int l]) → Q (.ref p) H') ∧
  ((∀ l, ¬ WayB a b l) → ∀ e p H', Same H H' → H e = none → H' p = some (.tup [.int a, .int b]) → H' e = some (.xd [("found", .ref p)]) → E (.ref C) (some e) H')
def spMeasP (K : PySem.W.Frag) : Sp := fun vs H Q _ => ∃ v w x y a b l, vs = [v, w] ∧ Pl K H v x y ∧ Way K H w a b l ∧ BQ 700 x ∧ BQ 700 y ∧ ∀ u H', Same H H' → NQ H' u ((x * (a : Rat) + y * (b : Rat)) / (l : Rat)) → Q u H'
def spLong : Sp := fun vs H Q _ => ∃ a b, vs = [.int a, .int b] ∧ Bt 200 a ∧ Bt 200 b ∧ (∀ l H', WayB a b l → Same H H' → Q (.int l) H') ∧ ((∀ l, ¬ WayB a b l) → ∀ H', Same H H' → Q .non H')
def spWayRight : Sp := fun vs H Q _ => ∃ a b, vs = [.int a, .int b] ∧ Bt 150 a ∧ Bt 150 b ∧ ∀ H', Same H H' → Q (.bl true) H'
def spNoWay8 (K : PySem.W.Frag) : Sp := fun vs H Q _ => ∃ bx n v a b l, vs = [.ref bx, v] ∧ Box H bx n ∧ n < 800000 ∧ Way K H v a b l ∧ ∀ H', Go bx H H' → Box H' bx (n + 1) → Q (.bl true) H'
def spSlid8 (K : PySem.W.Frag) : Sp := fun vs H Q _ => ∃ v u w x y t a b l, vs = [v, u, w] ∧ Pl K H v x y ∧ NQ H u t ∧ Way K H w a b l ∧ BQ 150 x ∧ BQ 150 y ∧ BQ 150 t ∧ ∀ p H', Same H H' → Pl K H' (.ref p) (slid x t a l) (slid y t b l) → Q (.ref p) H'
def spPlIs (K : PySem.W.Frag) : Sp := fun vs H Q _ => ∃ v w x y, vs = [v, w] ∧ Pl K H v x y ∧ Pl K H w x y ∧ ∀ H', Same H H' → Q (.bl true) H'
def spRight8 (K : PySem.W.Frag) : Sp := fun vs H Q _ => ∃ v u w z x y t a b l c d m, vs = [v, u, w, z] ∧ Pl K H v x y ∧ NQ H u t ∧ Way K H w a b l ∧ Way K H z c d m ∧ BQ 130 x ∧ BQ 130 y ∧ BQ 130 t ∧ ∀ H', Same H H' → Q (.bl true) H'
end HP
namespace HP
open PySem PySem.Spec PyProof.Rows L2
def rReprB : List V → Hp → VK → Prop := fun xs H Q => ∃ b : Bool, xs = [.bl b] ∧ Q (.str (if b then "True" else "False")) H
theorem call_reprB {X : Cx} : CallR X (.builtin "repr") rReprB := by
  intro pins s σ H xs us Q I r h
  obtain ⟨b, rfl, q⟩ := h
  obtain ⟨u, rfl, rx⟩ := vals1 r
  cases (show u = Value.bool b from rx)
  exact PySem.P.repr_of_bool ⟨.str _, H, I.tok _, ⟨_, rfl⟩, q⟩
theorem q_reprb {b : Bool} {H : Hp} {Q : VK} (q : Q (.str (if b then "True" else "False")) H) : rReprB [.bl b] H Q := ⟨b, rfl, q⟩
theorem q_eqS {H : Hp} {Q : VK} {x : Str} (q : Q (.bl true) H) : rEq (.str x) (.str x) H Q := ⟨rfl, by rw [decide_eq_true rfl]; exact q⟩
theorem meas_eq {x y : Rat} {a b l : Int} : (x * (a : Rat) + y * (b : Rat)) / (l : Rat) = meas x y a b l := by
  unfold meas
  rw [show ((1 : Int) : Rat) = 1 from rfl]
  grind
theorem slid_each {x t : Rat} {a l : Int} : x + t * (((1 : Int) : Rat) / (l : Rat)) * (a : Rat) = slid x t a l := by
  unfold slid
  rw [show ((1 : Int) : Rat) = 1 from rfl]
  grind
theorem slid_1 {x t : Rat} : slid x t 1 1 = x + t := by
  unfold slid
  rw [show ((1 : Int) : Rat) = 1 from rfl]
  grind
theorem meas_slid {x y t : Rat} {a b l : Int} (w : WayB a b l) : meas (slid x t a l) (slid y t b l) a b l = meas x y a b l + t := by
  have h1 := int_ne w.l0
  have e : (a : Rat) * (a : Rat) + (b : Rat) * (b : Rat) = (l : Rat) * (l : Rat) := by exact_mod_cast w.e
  unfold meas slid
  rw [show ((1 : Int) : Rat) = 1 from rfl]
  grind
theorem sq_inj {l m : Int} (h1 : 1 ≤ l) (h2 : l < m) (h : l * l = m * m) : False := by
  have := Int.mul_lt_mul h2 (Int.le_of_lt h2) (by omega) (by omega)
  omega
theorem q_isN {H : Hp} {Q : VK} {v : V} (q : Q (.bl (decide (v = .non))) H) : (fun x y (H : Hp) (Q : VK) => y = V.non ∧ Q (.bl (decide (x = .non))) H) v .non H Q := ⟨rfl, q⟩
end HP
namespace HP
open PySem PySem.Spec PyProof.Rows L2
def rIsN : R2 := fun x y H Q => y = .non ∧ Q (.bl (decide (x = .non))) H
theorem op_isNn {X : Cx} : OpR X (compareOp .Is) rIsN := op_isN
theorem q_isNI {H : Hp} {Q : VK} {i : Int} (q : Q (.bl false) H) : rIsN (.int i) .non H Q := ⟨rfl, by rw [decide_eq_false (by intro z; cases z)]; exact q⟩
theorem q_isNR {H : Hp} {Q : VK} {a : Addr} (q : Q (.bl false) H) : rIsN (.ref a) .non H Q := ⟨rfl, by rw [decide_eq_false (by intro z; cases z)]; exact q⟩
theorem q_isNN {H : Hp} {Q : VK} (q : Q (.bl true) H) : rIsN .non .non H Q := ⟨rfl, by rw [decide_eq_true rfl]; exact q⟩
theorem pe_globR {X : Cx} {x : Str} {a : Addr} {pos : Pos} (hg : Gl X x) (h : X.mg x = some (.ref a)) (hd : (x == ("__debug__" : Str)) = false := by decide) : PE X (.Name x pos) (tC (.ref a)) := pe_glob hg h rfl hd
theorem q_dnew {H : Hp} {Q : VK} {σ : L2.St} (q : ∀ p, H p = none → Q (.ref p) (upd H p (.dK []))) : tDNewK σ H Q := q
def rStrI : List V → Hp → VK → Prop := fun xs H Q => ∃ i : Int, xs = [.int i] ∧ i.natAbs.log2 < 1920 ∧ Q (.str (toString i)) H
theorem call_strI {X : Cx} : CallR X (.type "str") rStrI := call_str_int
theorem q_strI {H : Hp} {Q : VK} {i : Int} (h : Bt 1900 i) (q : Q (.str (toString i)) H) : rStrI [.int i] H Q := ⟨i, rfl, by have := h.log; omega, q⟩
end HP
namespace HP
open PySem PySem.Spec PyProof.Rows L2
theorem q_isqrt {i : Int} {H : Hp} {Q : VK} (h0 : 0 ≤ i) (h : Bt 900 i) (q : Q (.int ((Float64.isqrt i.toNat : Nat) : Int)) H) : rIsqrt [.int i] H Q := ⟨i, rfl, h0, by
  have e : i.toNat = i.natAbs := by omega
  have := h.log
  rw [e]
  omega, q⟩
end HP
namespace HP
open PySem PySem.Spec PyProof.Rows L2
theorem wayb_u {a b l m : Int} (h : WayB a b l) (k : WayB a b m) : l = m := by
  have e := h.e.symm.trans k.e
  rcases Int.lt_trichotomy l m with z | z | z
  · exact (sq_inj h.lp z e).elim
  · exact z
  · exact (sq_inj k.lp z e.symm).elim
theorem gd_ii {a b : Int} (h1 : Bt 1900 a) (h2 : Bt 1900 b) : GD (.tuple [.int a, .int b]) 2 3 := by
  refine (gd_tuple (k := 1) (m := 0) ?_).mono (by decide) (by simp)
  intro d hd
  rcases List.mem_cons.mp hd with e | hd
  · rw [e]
    exact gd_int h1
  rcases List.mem_cons.mp hd with e | hd
  · rw [e]
    exact gd_int h2
  · cases hd
theorem dp_ii {K : PySem.W.Frag} {H : Hp} {p : Addr} {a b : Int} (h : SqT K H p [.int a, .int b]) : Dp K H (.ref p) (.tuple [.int a, .int b]) := .tup h (.cons (.int _) (.cons (.int _) .nil))
end HP
namespace HP
open PySem PySem.Spec PyProof.Rows L2
theorem q_isiT3 {K : PySem.W.Frag} {H : Hp} {Q : VK} {x : V} {n : String} {tp : Addr} {b1 b2 b3 : Bool} (ty : TyX K H x (.type n)) (ht : H tp = some (.tup [.ty "bool", .ty "str", .ty "tuple"])) (e1 : kitB n "bool" = some b1) (e2 : kitB n "str" = some b2) (e3 : kitB n "tuple" = some b3) (q : Q (.bl (b1 || (b2 || b3))) H) : rIsiT K [x, .ref tp] H Q := by
  refine ⟨x, tp, _, _, _, _, rfl, ht, .cons (.ty _) (.cons (.ty _) (.cons (.ty _) .nil)), ty, ?_, q⟩
  unfold PySem.W.kitAny
  rw [kit_ty e1]
  cases b1
  · unfold PySem.W.kitAny
    rw [kit_ty e2]
    cases b2
    · unfold PySem.W.kitAny
      rw [kit_ty e3]
      cases b3
      · rfl
      · rfl
    · rfl
  · rfl
theorem kt_b1 : kitB "bool" "bool" = some true := by decide +kernel
theorem kt_b2 : kitB "bool" "str" = some false := by decide +kernel
theorem kt_b3 : kitB "bool" "tuple" = some false := by decide +kernel
theorem kt_i1 : kitB "int" "bool" = some false := by decide +kernel
theorem kt_i2 : kitB "int" "str" = some false := by decide +kernel
theorem kt_i3 : kitB "int" "tuple" = some false := by decide +kernel
theorem kt_s1 : kitB "str" "bool" = some false := by decide +kernel
theorem kt_s2 : kitB "str" "str" = some true := by decide +kernel
theorem kt_s3 : kitB "str" "tuple" = some false := by decide +kernel
theorem kt_t1 : kitB "tuple" "bool" = some false := by decide +kernel
theorem kt_t2 : kitB "tuple" "str" = some false := by decide +kernel
theorem kt_t3 : kitB "tuple" "tuple" = some true := by decide +kernel
theorem q_odd3 {K : PySem.W.Frag} {H : Hp} {Q : VK} {x : V} {d : PyData} {tp : Addr} (o : Odd K H x d) (ht : H tp = some (.tup [.ty "bool", .ty "str", .ty "tuple"])) (q : Q (.bl true) H) : rIsiT K [x, .ref tp] H Q := by
  cases o with
  | bl b => exact q_isiT3 (.base (.bl b)) ht kt_b1 kt_b2 kt_b3 q
  | str s ok => exact q_isiT3 (.base (.str s)) ht kt_s1 kt_s2 kt_s3 q
  | tup h => exact q_isiT3 (sqt_ty h) ht kt_t1 kt_t2 kt_t3 q
theorem q_int3 {K : PySem.W.Frag} {H : Hp} {Q : VK} {i : Int} {tp : Addr} (ht : H tp = some (.tup [.ty "bool", .ty "str", .ty "tuple"])) (q : Q (.bl false) H) : rIsiT K [.int i, .ref tp] H Q := q_isiT3 (.base (.int i)) ht kt_i1 kt_i2 kt_i3 q
theorem Odd.dp {K : PySem.W.Frag} {H : Hp} {x : V} {d : PyData} (o : Odd K H x d) : Dp K H x d := by
  cases o with
  | bl b => exact .bl b
  | str s ok => exact .str s
  | tup h => exact dp_ii h
theorem Odd.same {K : PySem.W.Frag} {H H' : Hp} {x : V} {d : PyData} (o : Odd K H x d) (s : Same H H') : Odd K H' x d := by
  cases o with
  | bl b => exact .bl b
  | str s ok => exact .str s ok
  | tup h => exact .tup (sqt_same h s)
theorem Odd.sh {K : PySem.W.Frag} {H : Hp} {x : V} {d : PyData} (o : Odd K H x d) : d.canLay0 = true ∧ d.depth ≤ 2 := by
  cases o with
  | bl b => exact ⟨rfl, by simp [PyData.depth]⟩
  | str s ok => exact ⟨ok, by simp [PyData.depth]⟩
  | tup h => exact ⟨rfl, by simp [PyData.depth, PyData.depthAll]⟩
theorem odds_shaped {ds : List PyData} (h : ∀ d ∈ ds, d.canLay0 = true ∧ d.depth ≤ 2) : SeqAt.shaped (.list ds) = true := by
  have h1 : ∀ ds : List PyData, (∀ d ∈ ds, d.canLay0 = true ∧ d.depth ≤ 2) → PyData.canLayAll0 ds = true ∧ PyData.depthAll ds ≤ 2 := by
    intro ds
    induction ds with
    | nil => exact fun _ => ⟨rfl, by simp [PyData.depthAll]⟩
    | cons d ds ih =>
      intro h
      obtain ⟨a, b⟩ := ih fun x hx => h x (List.mem_cons_of_mem _ hx)
      obtain ⟨c, e⟩ := h d List.mem_cons_self
      refine ⟨by simp [PyData.canLayAll0, a, c], ?_⟩
      simp only [PyData.depthAll]
      omega
  obtain ⟨a, b⟩ := h1 ds h
  unfold SeqAt.shaped
  rw [Bool.and_eq_true, decide_eq_true_eq]
  refine ⟨by simpa only [PyData.canLay0] using a, ?_⟩
  simp only [PyData.depth]
  omega
theorem eqv_nil (ds : List PyData) : PyData.eqv (.list ds) (.list []) = decide (ds = []) := by
  cases ds with
  | nil => rfl
  | cons d ds => simp [PyData.eqv, PyData.eqvAll]
theorem str_lay {i : Int} (h : Bt 11 i) : PyData.canLay0 (.str (toString i)) = true := by
  have h1 := h.lt
  have e : i.natAbs < 2048 := h1
  have all : ∀ n : Fin 2048, PyData.canLay0 (.str (toString (n.val : Int))) = true ∧ PyData.canLay0 (.str (toString (-(n.val : Int)))) = true := by decide +kernel
  obtain ⟨a1, a2⟩ := all ⟨i.natAbs, e⟩
  rcases Int.le_total 0 i with z | z
  · rw [show ((i.natAbs : Nat) : Int) = i by omega] at a1
    exact a1
  · rw [show -((i.natAbs : Nat) : Int) = i by omega] at a2
    exact a2
end HP
namespace HP
open PySem PySem.Spec PyProof.Rows L2
theorem call_isiTK {X : Cx} {K : PySem.W.Frag} (h : X.K = K) : CallR X (.builtin "isinstance") (rIsiT K) := h ▸ call_isiT
end HP
namespace HP
open PySem PySem.Spec PyProof.Rows L2
theorem tyx_same {K : PySem.W.Frag} {H H' : Hp} {v : V} {n : String} (t : TyX K H v (.type n)) (s : Same H H') : TyX K H' v (.type n) := by
  cases t with
  | base h =>
    refine .base ?_
    cases h with
    | non => exact .non
    | bl x => exact .bl x
    | int i => exact .int i
    | str x => exact .str x
    | flt x => exact .flt x
    | lst e => exact .lst (s _ _ e)
    | frz e => exact .frz (s _ _ e)
    | tup e => exact .tup (s _ _ e)
    | dK e => exact .dK (s _ _ e)
    | dT e => exact .dT (s _ _ e)
  | byt b => exact .byt b
  | set e => exact .set (s _ _ e)
  | kList e c => exact .kList e c
  | kTuple e c => exact .kTuple e c
  | kDict e c => exact .kDict e c
  | fTuple e => exact .fTuple (s _ _ e)
  | fDict e => exact .fDict (s _ _ e)
theorem IO.same {K : PySem.W.Frag} {H H' : Hp} {v : V} (h : IO K H v) (s : Same H H') : IO K H' v := h.imp id fun ⟨d, o⟩ => ⟨d, o.same s⟩
/-- a list's own change moves no tuple -/
theorem Odd.put {K : PySem.W.Frag} {H H' : Hp} {x : V} {d : PyData} {D : Addr} {vs : List V} (o : Odd K H x d) (hD : H D = some (.lst vs)) (s : ∀ c, c ≠ D → ∀ o, H c = some o → H' c = some o) : Odd K H' x d := by
  cases o with
  | bl b => exact .bl b
  | str s ok => exact .str s ok
  | @tup p a b h =>
    refine .tup ?_
    rcases h with (h | ⟨o, h⟩) | h
    · exact .inl (.inl (s _ (fun z => by rw [z, hD] at h; cases h) _ h))
    · exact .inl (.inr ⟨o, s _ (fun z => by rw [z, hD] at h; cases h) _ h⟩)
    · exact .inr h
/-- .. with what each is -/
inductive OddL (K : PySem.W.Frag) (H : Hp) : List V → List PyData → Prop where
  | nil : OddL K H [] []
  | cons {v : V} {d : PyData} {vs : List V} {ds : List PyData} : Odd K H v d → OddL K H vs ds → OddL K H (v :: vs) (d :: ds)
end HP
namespace HP
open PySem PySem.Spec PyProof.Rows L2
abbrev Odds := OddL
theorem OddL.dp {K : PySem.W.Frag} {H : Hp} : ∀ {vs : List V} {ds : List PyData}, OddL K H vs ds → DpAll K H vs ds
  | _, _, .nil => .nil
  | _, _, .cons h t => .cons h.dp t.dp
theorem OddL.sh {K : PySem.W.Frag} {H : Hp} : ∀ {vs : List V} {ds : List PyData}, OddL K H vs ds → ∀ d ∈ ds, d.canLay0 = true ∧ d.depth ≤ 2
  | _, _, .nil => nofun
  | _, _, .cons h t => fun d hd => by
    rcases List.mem_cons.mp hd with e | hd
    · rw [e]
      exact h.sh
    · exact t.sh d hd
theorem OddL.same {K : PySem.W.Frag} {H H' : Hp} (s : Same H H') : ∀ {vs : List V} {ds : List PyData}, OddL K H vs ds → OddL K H' vs ds
  | _, _, .nil => .nil
  | _, _, .cons h t => .cons (h.same s) (OddL.same s t)
theorem OddL.put {K : PySem.W.Frag} {H H' : Hp} {D : Addr} {ws : List V} (hD : H D = some (.lst ws)) (s : ∀ c, c ≠ D → ∀ o, H c = some o → H' c = some o) : ∀ {vs : List V} {ds : List PyData}, OddL K H vs ds → OddL K H' vs ds
  | _, _, .nil => .nil
  | _, _, .cons h t => .cons (h.put hD s) (OddL.put hD s t)
theorem OddL.snoc {K : PySem.W.Frag} {H : Hp} {v : V} {d : PyData} : ∀ {vs : List V} {ds : List PyData}, OddL K H vs ds → Odd K H v d → OddL K H (vs ++ [v]) (ds ++ [d])
  | _, _, .nil, o => .cons o .nil
  | _, _, .cons h t, o => .cons h (OddL.snoc t o)
end HP
namespace HP
open PySem PySem.Spec PyProof.Rows L2 HotX L2H
/-! ### while an exception is handled: two names at once -/
section
variable {prog : Program} {w : World} {A : Around} {E : Value → Shared → Prop} {s : Shared}
theorem tuple_over_hot {it t x1 : Addr} {i : Nat} {items : Array Value} {Q : Option Value → Shared → Prop} (hot : HotAt A x1 s.heap)
    (hit : IsTupIter s.heap it t i) (ht : IsTup s.heap t items) (hx : items[i]? = none)
    (hQ : ∀ h', Heap.ExtBut it s.heap h' → Q none { s with heap := h' }) (hne : x1 ≠ it) : wpAny (model prog w) A (pyNext (.ref it)) Q E s := by
  obtain ⟨o, ho, hc, hd⟩ := id hit
  obtain ⟨ol, hol, _, nl, hdl⟩ := ht
  obtain ⟨hh, o1, vs1, h1, d1, c1⟩ := hot
  unfold pyNext
  refine wpAny_bind (wpAny_attempt (wpAny_callSpecial?_slot (name := Str.ofString "__next__") hit.typeIs slot_tupleiter_next
    (wpAny_call_entry slot_tupleiter_next hit.typeIs entry_tupleiter_next ?_ (args_tupleiter_next _))))
  show wpAny _ _ (field (.ref it) 0 >>= _) _ _ s
  refine wpAny_bind (wpAny_field ho hd (x := .ref t) rfl ?_)
  show wpAny _ _ (if (Value.ref t == Value.none) = true then _ else _) _ _ s
  rw [if_neg (show ¬ ((Value.ref t == Value.none) = true) from Bool.false_ne_true)]
  show wpAny _ _ (field (.ref it) 1 >>= _) _ _ s
  refine wpAny_bind (wpAny_field ho hd (x := .int i 0) rfl ?_)
  show wpAny _ _ (seqItems? (.ref t) >>= _) _ _ s
  refine wpAny_bind (wpAny_seqItems hol hdl ?_)
  simp only [Int.toNat_natCast, hx]
  refine wpAny_bind (wpAny_rule (wpAny_bind (wpAny_setField ho hd (by simp) ?_)))
  refine wpAny_bind ?_
  show wpAny _ _ (newExc (.type "StopIteration") [] >>= _) _ _ _
  refine wpAny_bind ?_
  simp only [newExc, newTuple]
  refine wpAny_bind (wpAny_newObj_type ?_ (by size_fits))
  refine wpAny_bind (m := firstArgMember _ _) (wpAny_of_eq (a := Value.none) (by first | rfl | (simp only [firstArgMember]; rfl)) ?_)
  refine wpAny_newObj_type ?_ (by size_fits)
  refine wpAny_pure ?_
  have hu : (s.heap.update it (Obj.mapFields fun x => x.setIfInBounds 0 Value.none)).get? x1 = some o1 := by
    rw [Heap.get?_update_other _ _ (by first | exact hne | exact Ne.symm hne)]
    exact h1
  have hp := Heap.get?_push_of_some { cls := Value.type "tuple", data := Data.seq #[] } hu
  refine raiseNew_hot ⟨hh, o1, vs1, Heap.get?_push_of_some _ hp, d1, c1⟩ (Nat.ne_of_lt (Heap.lt_size hp)) (Heap.get?_push_size _ rfl) rfl (by first | (simp; done) | (simp; omega) | (simp only [Array.size_append]; simp; omega)) ?_
  refine wpAny_bind (wpAny_isInstance (T := "StopIteration") (b := true) ⟨_, Heap.get?_update_self _ (Heap.get?_push_size _ rfl) rfl, rfl⟩ isSubtype_stop ?_)
  refine wpAny_pure (hQ _ fun b o hb e => ?_)
  have e1 : (s.heap.update it (Obj.mapFields fun x => x.setIfInBounds 0 Value.none)).get? b = some o := by
    rw [Heap.get?_update_other _ _ (by first | exact hb | exact Ne.symm hb)]
    exact e
  have e2 := Heap.get?_push_of_some { cls := Value.type "tuple", data := Data.seq #[] } e1
  rw [Heap.get?_update_other _ _ (Nat.ne_of_gt (Heap.lt_size e2))]
  exact Heap.get?_push_of_some _ e2
theorem unpack_hot {t x1 : Addr} {items : Array Value} {Q : List Value → Shared → Prop} (hot : HotAt A x1 s.heap) (ht : IsTup s.heap t items)
    (hQ : ∀ h', Heap.ExtBut s.heap.objs.size s.heap h' → Q items.toList { s with heap := h' }) : wpAny (model prog w) A (unpackItems (.ref t) items.size none) Q E s := by
  have hlt : t ≠ s.heap.objs.size := by obtain ⟨o, ho, _⟩ := ht; exact Nat.ne_of_lt (Heap.lt_size ho)
  obtain ⟨hh, o1, vs1, h1, d1, c1⟩ := hot
  have hne : x1 ≠ s.heap.objs.size := Nat.ne_of_lt (Heap.lt_size h1)
  unfold unpackItems
  refine wpAny_bind ?_
  unfold notIterableAtAll
  refine wpAny_bind (wpAny_specialOf ht.typeIs slot_tuple_iter.lookup ?_)
  refine wpAny_pure ?_
  simp only [Bool.false_eq_true, if_false]
  refine wpAny_bind (wpAny_holding (iter_tuple ht ?_))
  refine wpAny_bind (wpAny_holding (draw_tuple hlt items.size 0 _ _ ⟨_, Heap.get?_push_size _ rfl, rfl, rfl⟩ (ht.push _) (by omega) fun h₁ hit₁ hs₁ => ?_))
  have hall : List.take items.size (List.drop 0 items.toList) = items.toList := by
    rw [List.drop_zero]; exact List.take_of_length_le (by simp)
  rw [hall]
  rw [if_neg (by simp)]
  have ht₁ : IsTup h₁ t items := (ht.push _).extBut hs₁.extBut hlt
  have hx1 : h₁.get? x1 = some o1 := hs₁.extBut x1 o1 hne (Heap.get?_push_of_some _ h1)
  refine wpAny_bind (wpAny_holding (tuple_over_hot ⟨hh, o1, vs1, hx1, d1, c1⟩ hit₁ ht₁ (by simp) (fun h₂ he₂ => ?_) hne))
  simp only [Option.isSome_none, Bool.false_eq_true, if_false]
  refine wpAny_pure (hQ h₂ fun b o hb e => he₂ b o hb (hs₁.extBut b o hb (Heap.get?_push_of_some _ e)))
end
theorem ps_parH {X : Cx} {i j : Nat} {x y : Str} {a b : Expr} {ta : TA} {px py pt pos : Pos} {kt k2 pt2} (hot : HotC X) (hN : X.N.Nodup) (hi : X.N[i]? = some x) (hj : X.N[j]? = some y) (hij : i ≠ j)
    (hx : X.env.scope.names.lookup x = some .local) (hy : X.env.scope.names.lookup y = some .local) (ha : PA X [a, b] ta)
    (hw : swappedStores [.Tuple [.Name x px, .Name y py] kt pt] (.Tuple [a, b] k2 pt2) X.env = pure (some [x, y]))
    (hs : swapsWithSole [.Tuple [.Name x px, .Name y py] kt pt] (.Tuple [a, b] k2 pt2) pos.line X.env = pure false := by rfl) :
    PS X (.Assign [.Tuple [.Name x px, .Name y py] kt pt] (.Tuple [a, b] k2 pt2) pos) (tPar i j ta) := by
  refine ⟨fun pins s σ H D I h => ?_⟩
  rw [exec_Assign_arm]
  refine wpAny_bind (wpAny_standAt ?_)
  rw [hs]
  refine wpAny_bind (wpAny_pure ?_)
  rw [if_neg (by decide)]
  refine wpAny_bind (Tuple_ (thn (ha.run _ pins s σ H _ I h) fun us s1 ⟨vs, H1, I1, r1, q1⟩ => ?_))
  obtain ⟨v, w, e1, q1⟩ := q1
  subst e1
  obtain ⟨u1, u2, rfl, rv, rw'⟩ := vals2 r1
  refine wpAny_newObj_type ?_ (by show 2 ≤ sizeLine; decide)
  have I2 : Inv X pins σ H1 { s1 with heap := s1.heap.push { cls := .type "tuple", data := .seq [u1, u2].toArray } } := I1.kept (t' := s1.toks) fun b o e => Heap.get?_push_of_some _ e
  rw [hw]
  refine wpAny_bind (wpAny_pure ?_)
  show wpAny (model X.prog X.w) X.A (do rule "assign.swapped-stores"; let items ← unpackItems (.ref s1.heap.objs.size) 2 none; assignInOrder [fun v => bindName X.env y v, fun v => bindName X.env x v] items.reverse; pure Flow.next) _ _ _
  obtain ⟨x1, hat⟩ := hot.at I2
  refine wpAny_bind (wpAny_rule (wpAny_bind (unpack_hot (items := #[u1, u2]) hat (IsTup.new s1.heap _) fun h' hx' => ?_)))
  have I3 := I2.kept (h' := h') (t' := s1.toks) fun b o e => hx' b o (Nat.ne_of_lt (Heap.lt_size e)) e
  show wpAny _ _ (assignInOrder [fun v => bindName X.env y v, fun v => bindName X.env x v] [u2, u1] >>= fun _ => pure Flow.next) _ _ _
  refine wpAny_bind (assignInOrder_cons (wpAny_bindName (store_ok I3 hN hj (.inl hy) rw' (fun s2 I4 => ?_) (.inr hy))))
  refine assignInOrder_cons (wpAny_bindName (store_ok I4 hN hi (.inl hx) rv (fun s3 I5 => assignInOrder_nil (wpAny_pure ?_)) (.inr hx)))
  rw [List.set_comm _ _ (Ne.symm hij)] at I5
  exact ⟨_, H1, I5, q1⟩
/-- the suite of a caught error whose context is None -/
theorem hot_suite {X : Cx} {a : Addr} {oe : Obj} {cls : Value} {d : Option Addr} {pn : List (Addr × Obj)} (hz : L2N.Zn cls d oe) (hf : ∃ vs, oe.data = .fields vs) : HotC (X.suite a ((a, oe) :: pn)) := by
  obtain ⟨vs, hd⟩ := hf
  exact ⟨(a, oe), ⟨rfl, vs, hd, hz.2.2 vs hd⟩, List.mem_cons_self⟩
end HP
namespace HP
open PySem PySem.Spec PyProof.Rows L2
/-! ### errors whose context is known to be None -/
section
variable {X : Cx} {e : Expr} {es : List Expr} {ta : TA} {p pos : Pos}
theorem pmk_oexN {CX : CXT} {x : Str} {C fI : Addr} {k : Nat} {fd : FuncData} {ps : List Str} {sp : Sp} (T : OexC X.K C) (iC : PySem.W.findIn X.K (.ref C) "__init__" = some (some (.ref fI))) (tI : PySem.W.typeIn X.K (.ref fI) = some (.type "function"))
    (F1 : FnOk X.prog X.w X.K X.mg X.base CX k fI fd ps sp) (hr : Room (k + 1) X.A) (hb : Binds X.K fd ps []) (hx : Passes CX X (fun _ _ _ => False)) (hg : Gl X x) (hm : X.mg x = some (.ref C)) (ha : PA X (e :: es) ta)
    (hdb : (x == ("__debug__" : Str)) = false := by decide) (he : starEach (e :: es) X.env = (false, eval e X.env) :: starEach es X.env := by rfl) (hpl : (backTo pos (starEach es X.env)).any (·.1) = false := by rfl) :
    L2N.PMk X (.Call (.Name x p) (e :: es) [] pos) (tMkO C sp [] ta) := by
  intro pins s σ H Q I h
  obtain ⟨_, _, _, _, bm, _, _, _, _, _, _, _, _, _, _, hC, hbm⟩ := T.cls
  refine wpAny_Call_Name_kw (ld_glob I hg hm ?_ hdb)
  refine PySem.W.callWith_K (h₀ := X.base) I.ok.mod.kin T.kC (thn (ha.run pos pins s σ H _ I h) fun us s1 ⟨vs, H1, I1, r1, hz, q1⟩ => ⟨I1.kIn, ?_⟩) he hpl
  show wpAny _ _ (call (.ref C) us) _ _ _
  obtain ⟨hp, g, dr, tk, os⟩ := s1
  have hsz : hp.objs.size ≤ hp.objs.size + 1 := Nat.le_succ _
  have hq := q1 _ (I1.hok.fresh hsz)
  rw [List.append_nil] at hq
  have kk : ∀ b o, hp.get? b = some o → ((hp.push (PySem.W.kdv_tup us)).push (PySem.HandSPX.excO C hp.objs.size)).get? b = some o := fun b o e => Heap.get?_push_of_some _ (Heap.get?_push_of_some _ e)
  have hget : ((hp.push (PySem.W.kdv_tup us)).push (PySem.HandSPX.excO C hp.objs.size)).get? (hp.objs.size + 1) = some (PySem.HandSPX.excO C hp.objs.size) := by heap_get
  have I2 : Inv X pins σ (upd H1 (hp.objs.size + 1) (exo (hp.objs.size + 1) C none)) ⟨(hp.push (PySem.W.kdv_tup us)).push (PySem.HandSPX.excO C hp.objs.size), g, dr, tk, os⟩ :=
    I1.laid (t' := tk) (a := hp.objs.size + 1) (o := exo (hp.objs.size + 1) C none) (h' := (hp.push (PySem.W.kdv_tup us)).push (PySem.HandSPX.excO C hp.objs.size)) kk hsz (exo_ok hget)
  have r2 : Vals (V.ref (hp.objs.size + 1) :: vs) (Value.ref (hp.objs.size + 1) :: us) := .cons rfl r1
  have hl : (Value.ref (hp.objs.size + 1) :: us).length = ps.length := by
    have e := r2.length
    rw [F1.len _ _ _ _ hq] at e
    exact e.symm
  have hus : us.length ≤ sizeLine := by
    rw [← r1.length, sizeLine_eq]
    omega
  refine wpAny_call (PySem.HandSPX.call_own F.excBase_ValueError (fun Y => PySem.HandSPX.refsVE_contains Y bm hbm) (I1.kIn _ _ hC) (PySem.W.looks_findIn I1.kIn iC) (fun self => PySem.W.bind_fn I1.kIn self tI) hus
    (codeAny_mono (F1.run _ X.stack _ _ ⟨Value.ref (hp.objs.size + 1) :: us, []⟩ (Value.ref (hp.objs.size + 1) :: us) _ _ (fun _ _ _ => False) (hr.make C us []) (I2.env0.make C us []) (by
      have z := hb _ (Value.ref (hp.objs.size + 1) :: us) I2.kIn (by rw [List.append_nil]; exact hl)
      rw [List.append_nil] at z
      exact z) r2 hq) fun r s' hq' => ?_))
  match r, hq' with
  | .error er, hq' => exact hx pins σ _ _ er s' I2 hq'
  | .ok (.ret u), hq' =>
    obtain ⟨v, H2, os2, bare2, un2, hok2, rv, ev, d, fs, ea, ed, hd1, q2⟩ := hq'
    subst ev
    obtain ⟨h2, g2, d2, t2, os'⟩ := s'
    obtain ⟨t0, G, J, kG, ge, hoe, na⟩ := mk_end0 (d2 := d2) (t2 := t2) I1 hsz kk un2 hok2 os2 bare2 ea ed hd1
    exact ⟨rv, _, _, _, ⟨G, g2, d2, t2, os'⟩, _, .ref C, some d, rfl, J, kG, ge, hoe, ⟨rfl, rfl, fun vs e => by cases e; rfl⟩, rfl, rfl, na, rfl, bare2, raises_own T.exC T.tyC, q2⟩
  | .ok .next, hq' => exact False.elim hq'
  | .ok .brk, hq' => exact False.elim hq'
  | .ok .cont, hq' => exact False.elim hq'
end
section
variable {P : Program} {w : World} {K : PySem.W.Frag} {mg : Str → Option Value} {base : Heap}
theorem fnXN {x : Str} {st : Stmt} {f : Addr} {fd : FuncData} {N ps : List Str} {k : Nat} {sp : Sp} (F : Fun K x x st f fd) (S : FnScope N ps (defScope st))
    (hbody : ∀ (cdv : Value) (A : Around) (outer : List Env) (s : Shared) (H : Hp) (vs : List V) (Q : VK) (E : XK), Room k (A.deeper (envOfC x (defScope st) s.heap.objs.size f cdv)) → sp vs H Q E →
      ∃ t, PSs (cxOf (L2N.CX P w) P w K mg base N x (defScope st) f cdv A outer s H E) (defBody st) t ∧ t { nx := fun _ H' => Q .non H', rt := Q } (start N vs) H) : FnOk P w K mg base (L2N.CX P w) (k + 1) f fd ps (spN ps.length sp) := by
  obtain ⟨oc, od, kV, doc, pm, an, cdv, ct, osl, rfl, lk, hcd⟩ := F.ex
  exact fn_of lk hcd S (fun _ _ _ _ h => h.1) fun A outer s H vs Q E hr h => hbody cdv A outer s H vs Q E hr h.2
theorem noraiseN {k : Nat} {f : Addr} {fd : FuncData} {ps : List Str} {sp : Sp} {n : Nat} (F : FnOk P w K mg base (L2N.CX P w) k f fd ps (spN n sp)) : FnOk P w K mg base CX0 k f fd ps (spN n (spE0 sp)) := by
  refine ⟨fun vs H Q E h => F.len vs H Q E0 ⟨h.1, h.2⟩, fun A outer s H ar us vs Q E hr e0 hb r h => ?_⟩
  refine codeAny_mono (F.run A outer s H ar us vs Q E0 hr e0 hb r ⟨h.1, h.2⟩) fun res s' hq => ?_
  cases res with
  | ok fl => cases fl <;> exact hq
  | error e =>
    obtain ⟨_, _, _, _, _, _, _, _, _, _, _, _, z⟩ := (show L2N.CX P w outer H s E0 e s' from hq)
    exact z.elim
structure CalXN (P : Program) (w : World) (K : PySem.W.Frag) (mg : Str → Option Value) (base : Heap) (k : Nat) (x : Str) (ps : List Str) (sp : Sp) (n : Nat) (ks : List Str) (dvs : List V) (perm : List Nat) : Prop where
  ex : ∃ (f : Addr) (fd : FuncData) (mv : List Value), FnOk P w K mg base (L2N.CX P w) k f fd ps (spN ps.length sp) ∧ mg x = some (.ref f) ∧ PySem.W.keepIn K (.ref f) = true ∧ KBn K fd ps n ks (fun us ws => pick perm (us ++ (mv ++ ws))) (fun vs zs => pick perm (vs ++ (dvs ++ zs)))
theorem calXN {x : Str} {st : Stmt} {f : Addr} {fd : FuncData} {ps : List Str} {k : Nat} {sp : Sp} (n : FnOk P w K mg base (L2N.CX P w) k f fd ps (spN ps.length sp)) (g : mg x = some (.ref f)) (F : Fun K x x st f fd) (m : Nat) (ks : List Str) (perm : List Nat)
    (b : ∀ (kV doc pm : Value) (an : Option Addr) (cdv ct : Value) (us ws : List Value), us.length = m → ws.length = ks.length → bindArgs (PySem.W.fnOf x x (defArgs st) (defBody st) (defScope st) .none kV doc pm an cdv ct) ⟨us, ks.zip ws⟩ = pure (ps.zip (pick perm (us ++ ws)))) : CalXN P w K mg base k x ps sp m ks [] perm := by
  obtain ⟨oc, od, kV, doc, pm, an, cdv, ct, osl, rfl, lk, hcd⟩ := F.ex
  exact ⟨f, _, [], n, g, F.kp, ⟨fun s us ws _ l1 l2 => .of_eq (b kV doc pm an cdv ct us ws l1 l2), fun r1 r2 => pick_vals (r1.append r2) perm⟩⟩
theorem CalXN.no {k : Nat} {x : Str} {ps : List Str} {sp : Sp} {n : Nat} {ks : List Str} {dvs : List V} {perm : List Nat} (c : CalXN P w K mg base k x ps sp n ks dvs perm) : CalK P w K mg base k x ps (spE0 sp) n ks dvs perm := by
  obtain ⟨f, fd, mv, F, a, b, d⟩ := c.ex
  exact ⟨f, fd, mv, noraiseN F, a, b, d⟩
end
section
variable {X : Cx} {k j n : Nat} {x : Str} {ps ks : List Str} {sp : Sp} {p pos : Pos} {e : Expr} {es : List Expr} {t tk : TA} {dvs : List V} {perm : List Nat} {kws : List Keyword} {W : WX}
theorem pe_calXN (C : CalXN X.prog X.w X.K X.mg X.base k x ps sp n ks dvs perm) (hr : Room j X.A) (hkj : k ≤ j) (hg : Gl X x) (tW : L2N.Takes X W) (ha : PA X (e :: es) t) (hkw : PK X kws tk) (hall : (backToKw pos (keywordEach kws X.env)).all (·.1.isSome) = true := by rfl) (hks : (backToKw pos (keywordEach kws X.env)).filterMap (·.1) = ks := by rfl)
    (hdb : (x == ("__debug__" : Str)) = false := by decide) (he : starEach (e :: es) X.env = (false, eval e X.env) :: starEach es X.env := by rfl)
    (hpl : ((backTo pos (starEach (e :: es) X.env)).any (·.1) || (backToKw pos (keywordEach kws X.env)).any (·.1.isNone)) = false := by rfl) : PE X (.Call (.Name x p) (e :: es) kws pos) (tCalX n ks.length ps.length sp dvs perm W t tk) := by
  obtain ⟨f, fd, mv, F, hm, hk, hb⟩ := C.ex
  refine ⟨fun pins s σ H Q I h => ?_⟩
  refine wpAny_Call_Name_kw (ld_glob I hg hm ?_ hdb)
  refine PySem.W.callWith_KW (h₀ := X.base) I.ok.mod.kin hk hall (thn (ha.run pos pins s σ H _ I h) fun us s1 ⟨vs, H1, I1, r, q⟩ => ?_) hpl he
  refine thn (hkw.run pos pins s1 σ H1 _ I1 q) fun ws s2 ⟨zs, H2, I2, rz, l1, l2, l3, q2⟩ => ⟨I2.kIn, ?_⟩
  rw [hks]
  have r2 := hb.rel r rz
  refine wpAny_call (codeAny_mono (F.run X.A X.stack s2 H2 ⟨us, ks.zip ws⟩ _ _ Q (WE W σ) (hr.mono hkj) I2.env0 (hb.to s2 us ws I2.kIn (r.length.symm.trans l1) (rz.length.symm.trans l2)) r2 ⟨l3, q2⟩) fun res s' hq => ?_)
  match res, hq with
  | .error er, hq => exact L2N.passAt tW σ pins H2 s2 er s' I2 hq
  | .ok (.ret u), hq => exact I2.after hq
  | .ok .next, hq => exact False.elim hq
  | .ok .brk, hq => exact False.elim hq
  | .ok .cont, hq => exact False.elim hq
end
end HP
namespace HP
open PySem PySem.Spec PyProof.Rows L2
theorem takes0N {X : Cx} : L2N.Takes X (fun _ _ _ _ => False) := fun _ _ x => by
  obtain ⟨_, _, _, _, _, _, _, _, _, _, _, _, _, _, _, _, z⟩ := x
  exact z.elim
end HP
namespace HP
open PySem PySem.Spec PyProof.Rows L2
/-! ### rounding -/
def spFromQ : Sp := fun vs H Q _ => ∃ v q, vs = [v] ∧ NQ H v q ∧ 0 ≤ q ∧ ∀ H', Same H H' → Q (.bl true) H'
def spPeriodQ : Sp := fun vs H Q _ => ∃ v q, vs = [v] ∧ NQ H v q ∧ 0 < q ∧ ∀ H', Same H H' → Q (.bl true) H'
def spPhaseQ : Sp := fun vs H Q _ => ∃ v u f s, vs = [v, u] ∧ NQ H v f ∧ NQ H u s ∧ 0 ≤ f ∧ f < s ∧ BQ 900 f ∧ BQ 900 s ∧ ∀ H', Same H H' → Q (.bl true) H'
def spSignedQ : Sp := fun vs H Q _ => ∃ u v a d, vs = [u, v] ∧ NQ H u a ∧ NQ H v d ∧ BQ 1500 a ∧ ∀ z H', Same H H' → NQ H' z (if d < 0 then -a else a) → Q z H'
def spAboveQ : Sp := fun vs H Q _ => ∃ v q, vs = [v] ∧ NQ H v q ∧ ∀ H', Same H H' → Q (.bl (decide (0 < q))) H'
theorem q_pos0 (q : Rat) : 0 < q ↔ 0 < q.num := by
  rw [q_lt 0 q]
  show 0 * (q.den : Int) < q.num * (1 : Int) ↔ _
  rw [Int.mul_one, Int.zero_mul]
theorem sgn_nn {q : Rat} (h : 0 ≤ q) : sgn q.num ≥ 0 := by
  have h1 : ¬ q.num < 0 := fun z => absurd ((q_neg0 q).mpr z) (Rat.not_lt.mpr h)
  unfold sgn
  split
  · exact absurd (by assumption) h1
  · split <;> omega
theorem sgn_lt {q : Rat} : sgn q.num < 0 ↔ q < 0 := by
  rw [q_neg0]
  unfold sgn
  split
  · exact ⟨fun _ => by assumption, fun _ => by decide⟩
  · split
    · exact ⟨fun z => by omega, fun z => by omega⟩
    · exact ⟨fun z => by omega, fun z => by omega⟩
theorem sgn_gt0 {q : Rat} (h : 0 < q) : sgn q.num > 0 := by
  have h1 := (q_pos0 q).mp h
  unfold sgn
  rw [if_neg (by omega), if_pos h1]
  decide
theorem sgn_ge1 {q : Rat} : sgn q.num ≥ 1 ↔ 0 < q := by
  rw [q_pos0]
  unfold sgn
  split
  · exact ⟨fun z => by omega, fun z => by omega⟩
  · split
    · exact ⟨fun _ => by assumption, fun _ => by decide⟩
    · exact ⟨fun z => by omega, fun z => by omega⟩
/-- the greatest multiple of c that isn't above q -/
def flq (q c : Rat) : Rat := ((q / c).floor : Rat) * c
def spFloorQ : Sp := fun vs H Q _ => ∃ x y a c, vs = [x, y] ∧ NQ H x a ∧ NQ H y c ∧ 0 < c ∧ BQ 1000 a ∧ BQ 1000 c ∧ ∀ v H', Same H H' → NQ H' v (flq a c) → Q v H'
theorem fl_div {T B : Int} (h : 0 < B) : ((T : Rat) / (B : Rat)).floor = T / B := by
  have hb : (0 : Rat) < (B : Rat) := by exact_mod_cast h
  have hb0 : (B : Rat) ≠ 0 := int_ne (by omega)
  have key : ∀ x : Int, (x : Rat) ≤ (T : Rat) / (B : Rat) ↔ x * B ≤ T := fun x => by
    have e : (T : Rat) = (T : Rat) / (B : Rat) * (B : Rat) := by grind
    constructor
    · intro z
      have := Rat.mul_le_mul_of_nonneg_right z (Rat.le_of_lt hb)
      rw [← e] at this
      exact_mod_cast this
    · intro z
      have z' : (x : Rat) * (B : Rat) ≤ (T : Rat) / (B : Rat) * (B : Rat) := by
        rw [← e]
        exact_mod_cast z
      exact Rat.le_of_mul_le_mul_right z' hb
  refine Int.le_antisymm ?_ ?_
  · rw [Int.le_ediv_iff_mul_le h]
    exact (key _).mp (Rat.floor_le _)
  · rw [Rat.le_floor_iff]
    exact (key _).mpr (Int.ediv_mul_le _ (by omega))
theorem flo_q (a c : Rat) (hc : 0 < c) : ((flo a.num (a.den : Int) c.num (c.den : Int) : Int) : Rat) / ((c.den : Int) : Rat) = flq a c := by
  have hn : c ≠ 0 := fun z => by rw [z] at hc; exact Rat.lt_irrefl hc
  have hcn : 0 < c.num := (q_pos0 c).mp hc
  have e1 := rat_nd c
  have e2 := den_ne c
  have ef : (a / c).floor = (a.num * (c.den : Int)).fdiv ((a.den : Int) * c.num) := by
    rw [q_div a c hn]
    have hp : 0 < (a.den : Int) * c.num := Int.mul_pos (den_pos' a) hcn
    rw [fl_div hp, Int.fdiv_eq_ediv_of_nonneg _ (Int.le_of_lt hp)]
  unfold flq flo
  rw [ef, Rat.intCast_mul]
  generalize ((a.num * (c.den : Int)).fdiv ((a.den : Int) * c.num) : Int) = m at *
  grind
theorem im_floor {vs H Q E} (h : spFloorQ vs H Q E) : spFloor vs H Q E := by
  obtain ⟨x, y, a, c, rfl, N1, N2, hc, B1, B2, k⟩ := h
  refine ⟨x, y, _, _, _, _, rfl, N1, N2, (q_pos0 c).mp hc, B1.t, B1.b, B2.t, B2.b, fun v H' t' b' S N L => k v H' S ?_⟩
  rw [← flo_q a c hc]
  exact N.nq (by have := den_pos' c; omega) L
/-- where a distance, bare, goes -/
def nea (s f d : Rat) : Rat := f + (if flq (d - (f - s / 2)) s < 0 then 0 else flq (d - (f - s / 2)) s)
end HP
namespace HP
open PySem PySem.Spec PyProof.Rows L2
theorem nea_n {s f d : Rat} (hs : 0 < s) : ∃ n : Int, 0 ≤ n ∧ nea s f d = f + (n : Rat) * s ∧ d - (f + (n : Rat) * s) < s / 2 ∧ (n = 0 ∨ -(d - (f + (n : Rat) * s)) ≤ s / 2) := by
  have h1 := Rat.floor_le ((d - (f - s / 2)) / s)
  have h2 := Rat.lt_floor_add_one ((d - (f - s / 2)) / s)
  have hs0 : s ≠ 0 := fun z => by rw [z] at hs; exact Rat.lt_irrefl hs
  have e : (d - (f - s / 2)) / s * s = d - (f - s / 2) := by grind
  unfold nea flq
  generalize ((d - (f - s / 2)) / s).floor = q at *
  have h3 : (q : Rat) * s ≤ d - (f - s / 2) := by
    have := Rat.mul_le_mul_of_nonneg_right h1 (Rat.le_of_lt hs)
    rw [e] at this
    exact this
  have h4 : d - (f - s / 2) < ((q + 1 : Int) : Rat) * s := by
    have := Rat.mul_lt_mul_of_pos_right h2 hs
    rw [e] at this
    exact this
  rw [Rat.intCast_add, show ((1 : Int) : Rat) = 1 from rfl] at h4
  have hm : ∀ m : Int, 0 ≤ m → 0 ≤ (m : Rat) * s := fun m hm => Rat.mul_nonneg (by exact_mod_cast hm) (Rat.le_of_lt hs)
  by_cases hq : q < 0
  · refine ⟨0, Int.le_refl _, ?_, ?_, .inl rfl⟩
    · rw [if_pos ?_, show ((0 : Int) : Rat) = 0 from rfl]
      · grind
      · have : (0 : Rat) < (-q : Int) := by exact_mod_cast (by omega : 0 < -q)
        have := Rat.mul_pos this hs
        rw [Rat.intCast_neg] at this
        grind
    · rw [show ((0 : Int) : Rat) = 0 from rfl]
      have := hm (-q - 1) (by omega)
      rw [Rat.intCast_sub, Rat.intCast_neg, show ((1 : Int) : Rat) = 1 from rfl] at this
      grind
  · have h5 := hm q (by omega)
    refine ⟨q, by omega, ?_, ?_, .inr ?_⟩
    · rw [if_neg (Rat.not_lt.mpr h5)]
    · grind
    · grind
end HP
namespace HP
open PySem PySem.Spec PyProof.Rows L2
def spMinL : Sp := fun vs H Q _ => ∃ x y a b, vs = [x, y] ∧ NQ H x a ∧ NQ H y b ∧ BQ 1900 a ∧ BQ 1900 b ∧ ∀ v H', Same H H' → NQ H' v (a + b * ((0 - 1 : Int) : Rat)) → Q v H'
theorem min_l (a b : Rat) : a + b * ((0 - 1 : Int) : Rat) = a - b := by
  rw [show ((0 - 1 : Int) : Rat) = -1 from rfl]
  grind
/-- a period above nought, a phase from nought on below it -/
def spPeriod (K : PySem.W.Frag) : Sp := fun vs H Q _ => ∃ bx n, vs = [.ref bx] ∧ Box H bx n ∧ n < 700000 ∧ ∀ p H' v u s f, H' p = some (.tup [v, u]) → NQ H' v s → NQ H' u f → 0 < s → 0 ≤ f → f < s → BQ 120 s → BQ 130 f → Go bx H H' → Box H' bx (n + 110) → Q (.ref p) H'
def spDist (K : PySem.W.Frag) : Sp := fun vs H Q _ => ∃ bx n v u s f, vs = [.ref bx, v, u] ∧ Box H bx n ∧ n < 700000 ∧ NQ H v s ∧ NQ H u f ∧ BQ 120 s ∧ BQ 130 f ∧ ∀ z d H', NQ H' z d → BQ 500 d → Go bx H H' → Box H' bx (n + 110) → Q z H'
def spToldR (K : PySem.W.Frag) : Sp := fun vs H Q _ => ∃ x y v u s f d, vs = [x, y, v, u] ∧ NQ H x (nea s f d) ∧ NQ H y d ∧ NQ H v s ∧ NQ H u f ∧ 0 < s ∧ BQ 1150 (nea s f d) ∧ BQ 500 d ∧ BQ 120 s ∧ BQ 130 f ∧ ∀ H', Same H H' → Q (.bl true) H'
end HP
namespace HP
open PySem PySem.Spec PyProof.Rows L2
theorem nq_int {H : Hp} {v : V} {n : Int} (h : NQ H v (n : Rat)) : v = .int n := by
  unfold NQ at h
  rw [Rat.num_intCast, Rat.den_intCast] at h
  rcases h with ⟨h, _⟩ | ⟨p, _, _, h, _⟩
  · exact h
  · have h : (2 : Int) ≤ ((1 : Nat) : Int) := h
    omega
theorem q_inv (s : Rat) (hs : 0 < s) : ((s.den : Int) : Rat) / (s.num : Rat) = 1 / s := by
  have h1 := rat_nd s
  have h2 := den_ne s
  have h3 := int_ne (show s.num ≠ 0 by have := (q_pos0 s).mp hs; omega)
  have h4 : s ≠ 0 := fun z => by rw [z] at hs; exact Rat.lt_irrefl hs
  grind
theorem q_half : ((1 : Int) : Rat) / ((2 : Int) : Rat) = 1 / 2 := rfl
theorem many_n {s f : Rat} {n : Int} (hs : 0 < s) : (f + (n : Rat) * s + f * ((0 - 1 : Int) : Rat)) * (1 / s) = (n : Rat) := by
  have h4 : s ≠ 0 := fun z => by rw [z] at hs; exact Rat.lt_irrefl hs
  rw [show ((0 - 1 : Int) : Rat) = -1 from rfl]
  grind
theorem half_ok {s x d : Rat} (h : d - x < s / 2) : 0 < s * (1 / 2) + (d + x * ((0 - 1 : Int) : Rat)) * ((0 - 1 : Int) : Rat) := by
  rw [show ((0 - 1 : Int) : Rat) = -1 from rfl]
  grind
theorem back_ok {s x d : Rat} (h : -(d - x) ≤ s / 2) : ¬ 0 < (d + x * ((0 - 1 : Int) : Rat)) * ((0 - 1 : Int) : Rat) + s * (1 / 2) * ((0 - 1 : Int) : Rat) := by
  rw [show ((0 - 1 : Int) : Rat) = -1 from rfl]
  grind
end HP
namespace HP
open PySem PySem.Spec PyProof.Rows L2
/-! ### errors as things -/
section
open PySem.W
variable {prog : Program} {w : World} {A : Around} {E : Value → Shared → Prop} {s : Shared} {K : Frag} {x D : Addr} {ox : Obj} {od : Option Obj}
theorem fo_cls {C : Addr} {name : Str} {a g : Value} (hc : (clsIn K C).isSome = true) (ha : findIn K (.ref C) name = some (some a)) (hg : specialIn K a "__get__" = some (some g)) (ht : takesIn K a = some true) : findObj K C od name = some (.bind g a) := by
  obtain ⟨cd, hcd⟩ := Option.isSome_iff_exists.mp hc
  unfold findObj
  rw [hcd, Option.bind_some, ha, Option.bind_some]; simp [hg, ht]
/-- what an error's class says of its things' class, whatever dict they have -/
theorem ek_class {Q : Option Value → Shared → Prop} (C : ExcC K D) (X : K.In s.heap) (I : InstAt s.heap x ox D od) (h : Q (some (.ref D)) { s with toks := s.toks + 1 }) : wpAny (model prog w) A (getAttr? (.ref x) "__class__") Q E s := by
  have hf : findObj K D od "__class__" = some (.bind (.builtin "getset_descriptor.__get__") (.builtin "object.__class__")) := fo_cls (by obtain ⟨c1, c2, _⟩ := any_some C.hd; rw [c2]; rfl) C.ha C.hn C.ht
  obtain ⟨hp, g, d, t, os⟩ := s
  have M0 := I.type (M := model prog w)
  have M1 := looks_findIn (M := model prog w) X C.hg
  have M2 := looks_findIn (M := model prog w) X C.hk
  have M3 := looks_find (M := model prog w) X I hf
  have isub : Looks (model prog w) hp (isInstance (.ref x) (.type "BaseException")) true := M0.andThen (looks_subIn X C.hs)
  have y2 : (Value.builtin "BaseException.__getattribute__" == Value.builtin "object.__getattribute__") = false := by decide +kernel
  have y1 : (onTheHeap (Value.ref D) && Value.builtin "BaseException.__getattribute__" == Value.builtin "object.__getattribute__") = false := by rw [y2]; rfl
  unfold getAttr? getAttrBy? getAttrBy; refine wpAny_bind (wpAny_mkText (wpAny_bind (wpAny_attempt (wpAny_holding (wpAny_bind (M0.at (wpAny_bind (M1.at ?_))))))))
  show wpAny _ _ (if (onTheHeap (Value.ref D) && Value.builtin "BaseException.__getattribute__" == Value.builtin "object.__getattribute__") = true then _ else _) _ _ _
  rw [y1, if_neg Bool.false_ne_true]; unfold getAttrByItsOwn hookBefore
  refine wpAny_bind ?_; rw [if_pos (show onTheHeap (Value.ref D) = true from rfl)]; refine M2.at ?_
  refine wpAny_bind (wpAny_attempt (wpAny_holding ?_)); unfold callGetattribute
  rw [show (false && onTheHeap (Value.builtin "BaseException.__getattribute__")) = false from rfl, if_neg Bool.false_ne_true]; unfold boundAndCalled
  rw [PySem.F.excAttr_ValueError.ga.bind (.ref x)]; refine wpAny_bind (wpAny_pure ?_)
  show wpAny _ _ (call (.builtin "BaseException.__getattribute__") [.ref x, .str "__class__" t]) _ _ _
  refine wpAny_call (codeAny_call_builtin PySem.F.excAttr_ValueError.ga.plain PySem.F.entry_bexc_ga (@check_slot (model prog w) _ _ ⟨hp, g, d, t + 1, os⟩ "BaseException.__getattribute__" "BaseException" "__getattribute__" (.ref x) [.str "__class__" t] [] _ (by decide +kernel) (by decide +kernel) isub (PySem.F.args_bexc_ga (.ref x) (.str "__class__" t)) ?_))
  unfold Builtin.«object.__getattribute__»; refine wpAny_bind (wpAny_of_eq (a := ((Value.ref x : Value), [Value.str "__class__" t])) (by first | rfl | (simp only [slotArgs]; rfl)) ?_)
  refine wpAny_bind (wpAny_pure (wpAny_bind (M0.at (wpAny_bind (M3.at ?_)))))
  show wpAny _ _ (holding [Value.builtin "object.__class__"] (call (.builtin "getset_descriptor.__get__") [.builtin "object.__class__", .ref x, .ref D]) >>= ret) _ _ _
  refine wpAny_bind (wpAny_holding (wpAny_call (class_get (s := ⟨hp, g, d, t + 1, os⟩) (ox := ox) (od := od) X I C.hm ?_)))
  refine wpAny_pure ?_; show wpAny _ _ (handedOut (.ref D)) _ _ _; rw [handedOut_of (v := .ref D) rfl]
  first | exact wpAny_pure (wpAny_pure h) | exact wpAny_pure h | exact wpAny_pure (wpAny_bind (wpAny_pure (wpAny_pure h)))
theorem ek_kit (C : ExcC K D) : KitX K (.ref x) (.ref D) (fun h => InstAt h x ox D od) where
  ty := fun _ _ _ I => I.type
  it := fun _ _ X _ => by
    obtain ⟨c1, c2, _⟩ := any_some C.hd
    unfold clsIn at c2; split at c2
    · rename_i c' d' cd' sl' ho
      intro A' Q' E' s' k q; unfold isType loadHead; exact wpAny_bind (wpAny_loadPart (k _ _ (X _ _ ho)) (wpAny_pure q))
    · cases c2
  ne := fun h tp dd its n sl X htp => by
    obtain ⟨c1, c2, _⟩ := any_some C.hd
    refine Bool.eq_false_iff.mpr fun q => ?_
    obtain rfl : D = tp := Value.ref.inj (beq_iff_eq.mp q)
    unfold clsIn at c2; split at c2
    · rename_i c' d' cd' sl' ho
      cases (X _ _ ho).symm.trans htp
    · cases c2
  ca := fun X I k => ek_class C X I k
end
/-- an error of the class at C, with its field -/
structure Erv (K : PySem.W.Frag) (H : Hp) (a C : Addr) (d : Addr) (fs : List (Str × V)) : Prop where
  e : H a = some (exo a C (some d))
  f : H d = some (exd d fs)
theorem Erv.same {K : PySem.W.Frag} {H H' : Hp} {a C d : Addr} {fs : List (Str × V)} (h : Erv K H a C d fs) (s : Same H H') : Erv K H' a C d fs := ⟨s _ _ h.e, s _ _ h.f⟩
section
variable {X : Cx} {e : Expr} {es : List Expr} {te : TE} {ta : TA} {p pos : Pos}
theorem erv_inst {pins : List (Addr × Obj)} {σ : L2.St} {H : Hp} {s : Shared} {a C d : Addr} {fs : List (Str × V)} (I : Inv X pins σ H s) (h : Erv X.K H a C d fs) :
    ∃ ox oD mA, PySem.W.InstAt s.heap a ox C (some oD) ∧ s.heap.Ns1 d mA ∧ (∀ f, RelO (fs.lookup f) (mA f)) ∧ (∀ n, PySem.W.lookIn n oD = some (mA n)) := by
  obtain ⟨t1, ho⟩ := exo_at I.hok h.e
  obtain ⟨mA, hns, rel⟩ := exd_at I.hok h.f
  obtain ⟨oD, hd, hl⟩ := lookIn_ns hns
  exact ⟨_, oD, mA, ⟨ho, rfl, rfl, hd⟩, hns, rel, hl⟩
/-- isinstance of an error that is a thing -/
def rIsEv (K : PySem.W.Frag) : List V → Hp → VK → Prop := fun xs H Q => ∃ (a C d : Addr) (fs : List (Str × V)) (c : V) (u : Value) (b : Bool), xs = [.ref a, c] ∧ Erv K H a C d fs ∧ ExcC K C ∧ ClsV c u ∧ PySem.W.kitOne K (.ref C) u = some b ∧ Q (.bl b) H
theorem call_isEv : CallR X (.builtin "isinstance") (rIsEv X.K) := by
  intro pins s σ H xs us Q I r h
  obtain ⟨a, C, d, fs, c, u, b, rfl, ev, hC, k, ek, q⟩ := h
  obtain ⟨u1, u2, rfl, r1, r2⟩ := vals2 r
  have e2 := k.eq r2
  subst e2
  obtain rfl : u1 = Value.ref a := r1
  obtain ⟨ox, oD, mA, J, _⟩ := erv_inst I ev
  exact PySem.W.kia_one (ek_kit hC) I.kIn J ek (fun z => nomatch z) fun tk => ⟨.bl b, H, I.tok tk, rfl, q⟩
/-- .. of any thing -/
def rIsY (K : PySem.W.Frag) : List V → Hp → VK → Prop := fun xs H Q => rIsi K xs H Q ∨ rIsEv K xs H Q
theorem call_isY : CallR X (.builtin "isinstance") (rIsY X.K) := by
  intro pins s σ H xs us Q I r h
  rcases h with h | h
  · exact call_isi pins s σ H xs us Q I r h
  · exact call_isEv pins s σ H xs us Q I r h
/-- a field of an error that is a thing -/
def tEf (K : PySem.W.Frag) (n : Str) (te : TE) : TE := fun σ H Q => te σ H fun x H1 => ∃ (a C d : Addr) (fs : List (Str × V)) (v : V), x = .ref a ∧ Erv K H1 a C d fs ∧ XfC K C ∧ PySem.W.findIn K (.ref C) n = some none ∧ fs.lookup n = some v ∧ Q v H1
theorem pe_ef {n : Str} (he : PE X e te) (hb : attributeBase e n X.env (eval e X.env) = eval e X.env := by rfl) : PE X (.Attribute e n pos) (tEf X.K n te) := by
  refine ⟨fun pins s σ H Q I h => attr_of hb (thn (he.run pins s σ H _ I h) fun u s1 hh => ?_)⟩
  obtain ⟨x, H1, I1, rx, a, C, d, fs, v, rfl, ev, T, hno, l, q⟩ := hh
  obtain rfl : u = Value.ref a := rx
  obtain ⟨ox, oD, mA, J, hns, rel, hl⟩ := erv_inst I1 ev
  obtain ⟨u, hu, ru⟩ := RelO.some_of (v := v) (o := mA n) (by rw [← l]; exact rel n)
  exact HandSPX.exc_get I1.kIn J T.ga T.gg T.exC (PySem.W.findObj_own T.hdC hno rfl (by rw [hl, hu])) (handed_of ru) ⟨v, H1, I1.tok _, ru, q⟩
/-- C(e, ..) as a thing -/
def tMkV (C : Addr) (sp : Sp) (ta : TA) : TE := fun σ H Q => ta σ H fun vs H1 => vs.length ≤ 1000 ∧ ∀ a, H1 a = none → sp (.ref a :: vs) (upd H1 a (exo a C none)) (fun v H2 => v = .non ∧ Q (.ref a) H2) (fun _ _ _ => False)
theorem pe_mkv {CX : CXT} {x : Str} {C fI : Addr} {k : Nat} {fd : FuncData} {ps : List Str} {sp : Sp} (T : OexC X.K C) (iC : PySem.W.findIn X.K (.ref C) "__init__" = some (some (.ref fI))) (tI : PySem.W.typeIn X.K (.ref fI) = some (.type "function"))
    (F1 : FnOk X.prog X.w X.K X.mg X.base CX k fI fd ps sp) (hr : Room (k + 1) X.A) (hb : Binds X.K fd ps []) (hx : Passes CX X (fun _ _ _ => False)) (hg : Gl X x) (hm : X.mg x = some (.ref C)) (ha : PA X (e :: es) ta)
    (hdb : (x == ("__debug__" : Str)) = false := by decide) (he : starEach (e :: es) X.env = (false, eval e X.env) :: starEach es X.env := by rfl) (hpl : (backTo pos (starEach es X.env)).any (·.1) = false := by rfl) :
    PE X (.Call (.Name x p) (e :: es) [] pos) (tMkV C sp ta) := by
  refine ⟨fun pins s σ H Q I h => ?_⟩
  obtain ⟨nm, q, N, bs, bm, sn, sub, ab, col, dd, k0, k1, k2, k3, k5, hC, hbm⟩ := T.cls
  refine wpAny_Call_Name_kw (ld_glob I hg hm ?_ hdb)
  refine PySem.W.callWith_K (h₀ := X.base) I.ok.mod.kin T.kC (thn (ha.run pos pins s σ H _ I h) fun us s1 ⟨vs, H1, I1, r1, hz, q1⟩ => ⟨I1.kIn, ?_⟩) he hpl
  show wpAny _ _ (call (.ref C) us) _ _ _
  obtain ⟨hp, g, dr, tk, os⟩ := s1
  have hsz : hp.objs.size ≤ hp.objs.size + 1 := Nat.le_succ _
  have hn : H1 (hp.objs.size + 1) = none := I1.hok.fresh hsz
  have hq := q1 (hp.objs.size + 1) hn
  have up2 : ∀ b o, hp.get? b = some o → ((hp.push (PySem.W.kdv_tup us)).push (PySem.HandSPX.excO C hp.objs.size)).get? b = some o := fun b o z => Heap.get?_push_of_some _ (Heap.get?_push_of_some _ z)
  have hget : ((hp.push (PySem.W.kdv_tup us)).push (PySem.HandSPX.excO C hp.objs.size)).get? (hp.objs.size + 1) = some (PySem.HandSPX.excO C hp.objs.size) := by heap_get
  have I2 : Inv X pins σ (upd H1 (hp.objs.size + 1) (exo (hp.objs.size + 1) C none)) ⟨(hp.push (PySem.W.kdv_tup us)).push (PySem.HandSPX.excO C hp.objs.size), g, dr, tk, os⟩ :=
    I1.laid (t' := tk) (a := hp.objs.size + 1) (o := exo (hp.objs.size + 1) C none) (h' := (hp.push (PySem.W.kdv_tup us)).push (PySem.HandSPX.excO C hp.objs.size)) up2 hsz (exo_ok hget)
  have r2 : Vals (V.ref (hp.objs.size + 1) :: vs) (Value.ref (hp.objs.size + 1) :: us) := .cons rfl r1
  have hl : (Value.ref (hp.objs.size + 1) :: us).length = ps.length := by
    have z := r2.length
    rw [F1.len _ _ _ _ hq] at z
    exact z.symm
  have hus : us.length ≤ sizeLine := by
    rw [← Paired.length r1, sizeLine_eq]; omega
  have hbb := hb (⟨(hp.push (PySem.W.kdv_tup us)).push (PySem.HandSPX.excO C hp.objs.size), g, dr, tk, os⟩ : Shared) (Value.ref (hp.objs.size + 1) :: us) I2.kIn (by rw [List.append_nil]; exact hl)
  rw [List.append_nil] at hbb
  refine wpAny_call (PySem.HandSPX.call_own F.excBase_ValueError (fun Y => PySem.HandSPX.refsVE_contains Y bm hbm) (I1.kIn _ _ hC) (PySem.W.looks_findIn I1.kIn iC) (fun self => PySem.W.bind_fn I1.kIn self tI) hus
    (codeAny_mono (F1.run _ X.stack _ _ ⟨Value.ref (hp.objs.size + 1) :: us, []⟩ (Value.ref (hp.objs.size + 1) :: us) _ _ (fun _ _ _ => False) (hr.make C us []) (I2.env0.make C us []) hbb r2 hq) fun r s' hq' => ?_))
  cases r with
  | error er => exact hx pins σ _ _ er s' I2 hq'
  | ok fl =>
    cases fl with
    | ret u =>
      obtain ⟨v, H2, os2, bare2, un, hok2, rv, ev, q2⟩ := hq'
      subst ev
      obtain ⟨h2, g2, d2, t2, os'⟩ := s'
      have nha : ∀ {b : Addr} {o : Obj}, hp.get? b = some o → b ≠ hp.objs.size + 1 := fun {b o} z => Nat.ne_of_lt (Nat.lt_of_lt_of_le (Heap.lt_size z) hsz)
      have up : ∀ {b : Addr}, b ≠ hp.objs.size + 1 → H1 b = none → upd H1 (hp.objs.size + 1) (exo (hp.objs.size + 1) C none) b = none := fun {b} hb n => by rw [upd_ne hb]; exact n
      have U : Un (frs X.stack) [] H1 H2 hp h2 := {
        keep := fun b o z n hf hx => un.keep b o (up2 b o z) (up (nha z) n) hf hx
        slot := fun b o z n hf hx => un.slot b o (up2 b o z) (up (nha z) n) hf hx
        free := fun b o z n hx => un.free b o (up2 b o z) (up (nha z) n) hx
        there := fun b o z hx => un.there b o (up2 b o z) hx
        tups := fun b xs z => un.tups b xs (by rw [upd_ne (ne_of_none z hn)]; exact z)
        frzs := fun b o v z => un.frzs b o v (by rw [upd_ne (ne_of_none z hn)]; exact z)
        tbls := fun b ps z => un.tbls b ps (by rw [upd_ne (ne_of_none z hn)]; exact z) }
      have J : Inv X pins σ H2 ⟨h2, g2, d2, t2, os'⟩ := I1.call' (ch := []) os2 U hok2 bare2 (fun b z => absurd z (by simp))
      exact ⟨rv, .ref (hp.objs.size + 1), H2, J, rfl, q2⟩
    | next => exact False.elim hq'
    | brk => exact False.elim hq'
    | cont => exact False.elim hq'
end
theorem q_mkv {C : Addr} {sp : Sp} {σ : L2.St} {H : Hp} {Q : VK} {ta : TA} (q : ta σ H fun vs H1 => vs.length ≤ 1000 ∧ ∀ a, H1 a = none → sp (.ref a :: vs) (upd H1 a (exo a C none)) (fun v H2 => v = .non ∧ Q (.ref a) H2) (fun _ _ _ => False)) : tMkV C sp ta σ H Q := q
theorem q_mkE {K : PySem.W.Frag} {C : Addr} {v : V} {H : Hp} {R : Addr → Hp → Prop} (q : ∀ a d H', Same H H' → H a = none → H d = none → Erv K H' a C d [("found", v)] → R a H') :
    [v].length ≤ 1000 ∧ ∀ a, H a = none → spN 2 (spErr C) (.ref a :: [v]) (upd H a (exo a C none)) (fun v H2 => v = .non ∧ R a H2) (fun _ _ _ => False) := by
  refine ⟨Nat.le_of_ble_eq_true rfl, fun a na => ⟨rfl, a, v, rfl, upd_same, fun dx nx ne => ⟨rfl, q a dx _ (fun b o e => ?_) na ?_ ⟨upd_same, ?_⟩⟩⟩⟩
  · rw [upd_ne ne] at nx
    rw [upd_ne (ne_of_none e na), upd_ne (ne_of_none e nx), upd_ne (ne_of_none e na)]; exact e
  · rw [upd_ne ne] at nx
    exact nx
  · rw [upd_ne ne, upd_same]
theorem q_ef {K : PySem.W.Frag} {n : Str} {te : TE} {σ : L2.St} {H : Hp} {Q : VK} (q : te σ H fun x H1 => ∃ (a C d : Addr) (fs : List (Str × V)) (v : V), x = .ref a ∧ Erv K H1 a C d fs ∧ XfC K C ∧ PySem.W.findIn K (.ref C) n = some none ∧ fs.lookup n = some v ∧ Q v H1) : tEf K n te σ H Q := q
end HP
namespace HP
open PySem PySem.Spec PyProof.Rows L2
theorem pe_cal0 {X : Cx} {k j : Nat} {x : Str} {sp : Sp} {p pos : Pos} (C : Cal X.prog X.w X.K X.mg X.base k x [] sp) (hr : Room j X.A) (hkj : k ≤ j) (hg : Gl X x) (hdb : (x == ("__debug__" : Str)) = false := by decide) : PE X (.Call (.Name x p) [] [] pos) (tCal 0 sp tNil) := by
  obtain ⟨f, fd, F, hm, hk, hb⟩ := C.ex
  have q := pe_call0 F (hr.mono hkj) hg hm hk hb .nil pass0 hdb (p := p) (pos := pos)
  exact ⟨fun pins s σ H Q I h => q.run pins s σ H Q I h⟩
end HP
namespace HP
open PySem PySem.Spec PyProof.Rows L2
theorem kit_no {K : PySem.W.Frag} {C : Addr} {T : String} {b : Bool} (h : PySem.W.subIn K (.ref C) (.type T) = some b) (m : PySem.W.kitMeta T = true := by decide +kernel) : PySem.W.kitOne K (.ref C) (.type T) = some b := by
  have e : (Value.ref C == Value.type T) = false := by
    refine Bool.eq_false_iff.mpr fun q => ?_
    cases beq_iff_eq.mp q
  unfold PySem.W.kitOne
  rw [e, if_neg Bool.false_ne_true]
  show (if PySem.W.kitMeta T = true then PySem.W.subIn K (.ref C) (.type T) else none) = _
  rw [if_pos m]; exact h
end HP
namespace HP
open PySem PySem.Spec PyProof.Rows L2
/-! ### things of any kind -/
/-- an error's class is no built-in one -/
structure NoB (K : PySem.W.Frag) (C : Addr) : Prop where
  i : PySem.W.kitOne K (.ref C) (.type "int") = some false
  b : PySem.W.kitOne K (.ref C) (.type "bool") = some false
  s : PySem.W.kitOne K (.ref C) (.type "str") = some false
  t : PySem.W.kitOne K (.ref C) (.type "tuple") = some false
  l : PySem.W.kitOne K (.ref C) (.type "list") = some false
  d : PySem.W.kitOne K (.ref C) (.type "dict") = some false
inductive Th (K : PySem.W.Frag) (bx : Addr) (H : Hp) : V → Prop where
  | non : Th K bx H .non
  | bl (b : Bool) : Th K bx H (.bl b)
  | int (i : Int) (h : Bt 700 i) : Th K bx H (.int i)
  | str (s : Str) (h : s.length ≤ 40000) (o : PyData.strOk s = true) : Th K bx H (.str s)
  | lst {a : Addr} {xs : List V} (e : H a = some (.lst xs)) (n : a ≠ bx) : Th K bx H (.ref a)
  | tup {a : Addr} {xs : List V} (e : H a = some (.tup xs)) (n : a ≠ bx) (l : xs.length ≤ 1000) (h : ∀ x ∈ xs, Th K bx H x) : Th K bx H (.ref a)
  | dct {a : Addr} {kvs : List (Key × V)} (e : H a = some (.dK kvs)) (n : a ≠ bx) : Th K bx H (.ref a)
  | err {a C d : Addr} {fs : List (Str × V)} (e : Erv K H a C d fs) (n : a ≠ bx) (nd : d ≠ bx) (c : ExcC K C) (o : NoB K C) : Th K bx H (.ref a)
section
variable {K : PySem.W.Frag} {bx : Addr} {H H' : Hp} {v : V} {Q : VK}
theorem Th.go (h : Th K bx H v) (g : Go bx H H') : Th K bx H' v := by
  induction h with
  | non => exact .non
  | bl b => exact .bl b
  | int i h => exact .int i h
  | str s h o => exact .str s h o
  | lst e n => exact .lst (g _ _ e n) n
  | tup e n l h ih => exact .tup (g _ _ e n) n l ih
  | dct e n => exact .dct (g _ _ e n) n
  | err e n nd c o => exact .err ⟨g _ _ e.e n, g _ _ e.f nd⟩ n nd c o
theorem Th.same (h : Th K bx H v) (s : Same H H') : Th K bx H' v := h.go (Go.of s)
/-- its type among int, bool, str, tuple, list, dict -/
def tyS (H : Hp) : V → String
  | .non => "NoneType"
  | .bl _ => "bool"
  | .int _ => "int"
  | .str _ => "str"
  | .ref a => match H a with
    | some (.lst _) => "list"
    | some (.tup _) => "tuple"
    | some (.dK _) => "dict"
    | _ => "error"
  | _ => "error"
def isS (H : Hp) (v : V) (t : String) : Bool := tyS H v == t || (t == "int" && tyS H v == "bool")
theorem exo_lst {e C : Addr} {d : Option Addr} {xs : List V} : exo e C d ≠ .lst xs := fun z => by cases (show HO.ext _ = HO.lst xs from z)
theorem exo_dK {e C : Addr} {d : Option Addr} {xs : List (Key × V)} : exo e C d ≠ .dK xs := fun z => by cases (show HO.ext _ = HO.dK xs from z)
theorem tyS_err {a C d : Addr} (e : H a = some (exo a C (some d))) : tyS H (.ref a) = "error" := by
  show (match H a with
    | some (.lst _) => "list"
    | some (.tup _) => "tuple"
    | some (.dK _) => "dict"
    | _ => "error") = "error"
  rw [e]
  rfl
theorem tyx_of (h : Th K bx H v) : (∃ t, TyX K H v (.type t) ∧ tyS H v = t ∧ (t = "NoneType" ∨ t = "bool" ∨ t = "int" ∨ t = "str" ∨ t = "list" ∨ t = "tuple" ∨ t = "dict")) ∨ (tyS H v = "error" ∧ ∃ a C d fs, v = .ref a ∧ Erv K H a C d fs ∧ ExcC K C ∧ NoB K C) := by
  cases h with
  | non => exact .inl ⟨_, .base .non, rfl, .inl rfl⟩
  | bl b => exact .inl ⟨_, .base (.bl b), rfl, .inr (.inl rfl)⟩
  | int i h => exact .inl ⟨_, .base (.int i), rfl, by simp⟩
  | str s h o => exact .inl ⟨_, .base (.str s), rfl, by simp⟩
  | lst e n => exact .inl ⟨_, .base (.lst e), by unfold tyS; simp only [e], by simp⟩
  | tup e n l h => exact .inl ⟨_, .base (.tup e), by unfold tyS; simp only [e], by simp⟩
  | dct e n => exact .inl ⟨_, .base (.dK e), by unfold tyS; simp only [e], by simp⟩
  | @err a C d fs e n nd c o => exact .inr ⟨tyS_err e.e, a, C, d, fs, rfl, e, c, o⟩
def six : List String := ["int", "bool", "str", "tuple", "list", "dict"]
theorem kit_six : ∀ a ∈ ["NoneType", "bool", "int", "str", "list", "tuple", "dict"], ∀ t ∈ six, kitB a t = some (a == t || (t == "int" && a == "bool")) := by decide +kernel
theorem q_isTh {t : String} (h : Th K bx H v) (ht : t ∈ six) (q : Q (.bl (isS H v t)) H) : rIsY K [v, .ty t] H Q := by
  rcases tyx_of h with ⟨a, hx, e, ha⟩ | ⟨e, a, C, d, fs, rfl, ev, c, o⟩
  · refine .inl ⟨v, .ty t, _, _, _, rfl, .ty t, hx, kit_ty (kit_six a ?_ t ht), ?_⟩
    · simp only [List.mem_cons, List.not_mem_nil, or_false]
      rcases ha with h | h | h | h | h | h | h <;> simp [h]
    · unfold isS at q
      rw [e] at q
      exact q
  · have hs : isS H (.ref a) t = false := by
      unfold isS
      rw [e]
      simp only [six, List.mem_cons, List.not_mem_nil, or_false] at ht
      rcases ht with h | h | h | h | h | h <;> subst h <;> decide
    rw [hs] at q
    refine .inr ⟨a, C, d, fs, .ty t, _, false, rfl, ev, c, .ty t, ?_, q⟩
    simp only [six, List.mem_cons, List.not_mem_nil, or_false] at ht
    rcases ht with h | h | h | h | h | h <;> subst h
    · exact o.i
    · exact o.b
    · exact o.s
    · exact o.t
    · exact o.l
    · exact o.d
/-- a whole number, no truth -/
def isI : V → Bool
  | .int _ => true
  | _ => false
def isStr : V → Bool
  | .str _ => true
  | _ => false
theorem isS_int (h : Th K bx H v) : (isS H v "int" && !isS H v "bool") = isI v := by
  cases h with
  | lst e n => simp [isS, tyS, e, isI]
  | tup e n l h => simp [isS, tyS, e, isI]
  | dct e n => simp [isS, tyS, e, isI]
  | err e n nd c o => simp [isS, tyS_err e.e, isI]
  | non => simp [isS, tyS, isI, isStr]
  | bl b => simp [isS, tyS, isI, isStr]
  | int i h => simp [isS, tyS, isI]
  | str s h o => simp [isS, tyS, isI]
theorem isS_str (h : Th K bx H v) : isS H v "str" = isStr v := by
  cases h with
  | lst e n => simp [isS, tyS, e, isStr]
  | tup e n l h => simp [isS, tyS, e, isStr]
  | dct e n => simp [isS, tyS, e, isStr]
  | err e n nd c o => simp [isS, tyS_err e.e, isStr]
  | non => simp [isS, tyS, isI, isStr]
  | bl b => simp [isS, tyS, isI, isStr]
  | int i h => simp [isS, tyS, isStr]
  | str s h o => simp [isS, tyS, isStr]
theorem isS_tup (h : Th K bx H v) : (isS H v "tuple" = true ∧ ∃ a xs, v = .ref a ∧ H a = some (.tup xs) ∧ xs.length ≤ 1000 ∧ ∀ x ∈ xs, Th K bx H x) ∨ (isS H v "tuple" = false ∧ ∀ a xs, v = .ref a → H a ≠ some (.tup xs)) := by
  cases h with
  | lst e n => exact .inr ⟨by simp [isS, tyS, e], fun a xs z e2 => by cases z; rw [e] at e2; cases e2⟩
  | @tup a xs e n l h => exact .inl ⟨by simp [isS, tyS, e], a, xs, rfl, e, l, h⟩
  | dct e n => exact .inr ⟨by simp [isS, tyS, e], fun a xs z e2 => by cases z; rw [e] at e2; cases e2⟩
  | err e n nd c o => exact .inr ⟨by simp [isS, tyS_err e.e], fun a xs z e2 => by cases z; rw [e.e] at e2; exact exo_tup (Option.some.inj e2)⟩
  | non => exact .inr ⟨by simp [isS, tyS], fun a xs z => nomatch z⟩
  | bl b => exact .inr ⟨by simp [isS, tyS], fun a xs z => nomatch z⟩
  | int i h => exact .inr ⟨by simp [isS, tyS], fun a xs z => nomatch z⟩
  | str s h o => exact .inr ⟨by simp [isS, tyS], fun a xs z => nomatch z⟩
end
/-- what is_int, is_whole, is_name, is_number tell -/
def wholeB (lo hi : Int) : V → Bool
  | .int i => decide (lo ≤ i ∧ i ≤ hi)
  | _ => false
def nameB : V → Bool
  | .str s => decide (1 ≤ s.length ∧ s.length ≤ 8) && s.cps.toList.all fun c => decide (97 ≤ c ∧ c ≤ 122)
  | _ => false
def numV : List V → Bool
  | [.int t, .int b] => decide (2 ≤ b ∧ Nat.gcd t.natAbs b.natAbs = 1)
  | _ => false
def numB (H : Hp) : V → Bool
  | .int _ => true
  | .ref a => match H a with
    | some (.tup xs) => numV xs
    | _ => false
  | _ => false
theorem q_ifb {b : Bool} {A B : Prop} (h : b = true → A) (h' : b = false → B) : if b = true then A else B := by
  cases b with
  | true => rw [if_pos rfl]; exact h rfl
  | false => rw [if_neg Bool.false_ne_true]; exact h' rfl
theorem q_ifnb {b : Bool} {A B : Prop} (h : b = true → B) (h' : b = false → A) : if (!b) = true then A else B := by
  cases b with
  | true => exact h rfl
  | false => exact h' rfl
def spIntT (K : PySem.W.Frag) : Sp := fun vs H Q _ => ∃ v bx, vs = [v] ∧ Th K bx H v ∧ Q (.bl (isI v)) H
def spWholeT (K : PySem.W.Frag) : Sp := fun vs H Q _ => ∃ v bx lo hi, vs = [v, .int lo, .int hi] ∧ Th K bx H v ∧ Q (.bl (wholeB lo hi v)) H
def spNameT (K : PySem.W.Frag) : Sp := fun vs H Q _ => ∃ v bx, vs = [v] ∧ Th K bx H v ∧ ∀ H', Same H H' → Q (.bl (nameB v)) H'
def spNumT (K : PySem.W.Frag) : Sp := fun vs H Q _ => ∃ v bx, vs = [v] ∧ Th K bx H v ∧ Q (.bl (numB H v)) H
end HP
namespace HP
open PySem PySem.Spec PyProof.Rows L2
/-! ### texts, sign by sign -/
theorem lc_str {x : Str} {g : TG} {tt : TT} {te : TE} {vs : List Nat} {σ : L2.St} {H1 : Hp} {D : Addr} {Qd : Hp → Prop} (Pv : Nat → Hp → Prop) (h0 : Pv 0 (upd H1 D (.lst [])))
    (hs : ∀ i c H, x.cps[i]? = some c → Pv i H → g (.str ⟨#[c]⟩) (wipe σ vs) H fun σ2 H2 => wipe σ2 vs = wipe σ vs ∧ tt σ2 H2 fun b H3 => if b = true then te σ2 H3 fun y H4 => ∃ acc, H4 D = some (.lst acc) ∧ acc.length < sizeLine ∧ Pv (i + 1) (upd H4 D (.lst (acc ++ [y]))) else Pv (i + 1) H3)
    (hd : ∀ H, Pv x.cps.size H → Qd H) : ∃ W : Nat → Nat → Hp → Prop, (∃ m, W 0 m (upd H1 D (.lst []))) ∧ ∀ i m H, W i m H → ((L2.Its x).stop i H ∧ Qd H) ∨ ((L2.Its x).go i H ∧ ∃ Nx : Hp → Prop, (∀ H', Nx H' → ∃ m', m' < m ∧ W (i + 1) m' H') ∧
      ∀ y H', (L2.Its x).yld i H y H' → g y (wipe σ vs) H' fun σ2 H2 => wipe σ2 vs = wipe σ vs ∧ tt σ2 H2 fun b H3 => if b = true then te σ2 H3 fun y H4 => ∃ acc, H4 D = some (.lst acc) ∧ acc.length < sizeLine ∧ Nx (upd H4 D (.lst (acc ++ [y]))) else Nx H3) := by
  refine ⟨fun i m H => m = x.cps.size - i ∧ i ≤ x.cps.size ∧ Pv i H, ⟨_, rfl, Nat.zero_le _, h0⟩, fun i m H ⟨hm, hi, p⟩ => ?_⟩
  by_cases z : i < x.cps.size
  · refine .inr ⟨z, Pv (i + 1), fun H' p' => ⟨x.cps.size - (i + 1), by omega, rfl, z, p'⟩, fun y H' hy => ?_⟩
    obtain ⟨e, c, hc, ey⟩ := hy
    subst e ey
    exact hs i c _ hc p
  · have e : i = x.cps.size := by omega
    rw [e] at p
    exact .inl ⟨by rw [e]; exact Nat.le_refl _, hd H p⟩
def okc (c : Nat) : Bool := decide (97 ≤ c ∧ c ≤ 122)
theorem cps_a : ("a" : Str).cps.toList = [97] := by decide +kernel
theorem cps_z : ("z" : Str).cps.toList = [122] := by decide +kernel
theorem le_a (c : Nat) : (!decide ((⟨#[c]⟩ : Str).cps.toList < ("a" : Str).cps.toList)) = decide (97 ≤ c) := by
  rw [cps_a]
  show (!decide ([c] < [97])) = _
  simp only [List.cons_lt_cons_iff, List.not_lt_nil, and_false, or_false]
  by_cases h : c < 97
  · rw [decide_eq_true h, decide_eq_false (by omega)]; rfl
  · rw [decide_eq_false h, decide_eq_true (by omega)]; rfl
theorem le_z (c : Nat) : (!decide (("z" : Str).cps.toList < (⟨#[c]⟩ : Str).cps.toList)) = decide (c ≤ 122) := by
  rw [cps_z]
  show (!decide ([122] < [c])) = _
  simp only [List.cons_lt_cons_iff, List.not_lt_nil, and_false, or_false]
  by_cases h : 122 < c
  · rw [decide_eq_true h, decide_eq_false (by omega)]; rfl
  · rw [decide_eq_false h, decide_eq_true (by omega)]; rfl
theorem take_succ {x : Str} {i c : Nat} (h : x.cps[i]? = some c) : x.cps.toList.take (i + 1) = x.cps.toList.take i ++ [c] := by
  rw [List.take_add_one, Array.getElem?_toList, h]; rfl
theorem take_all (x : Str) : x.cps.toList.take x.cps.size = x.cps.toList := by
  rw [List.take_of_length_le]; simp
/-- a chain of two comparisons of texts -/
theorem q_chrs {c : Nat} {σ : L2.St} {H : Hp} {Q : VK} {i : Nat} (hs : σ[i]? = some (some (.str ⟨#[c]⟩))) (q : Q (.bl (okc c)) H) :
    tChain (fun x y H Q => ∃ i j, x = .str i ∧ y = .str j ∧ Q (.bl (!decide (j.cps.toList < i.cps.toList))) H) (fun x y H Q => ∃ i j, x = .str i ∧ y = .str j ∧ Q (.bl (!decide (j.cps.toList < i.cps.toList))) H) (tC (.str "a")) (tVar i) (tC (.str "z")) σ H Q := by
  refine ⟨_, hs, _, _, rfl, rfl, _, rfl, ?_⟩
  rw [le_a]
  unfold okc at q
  by_cases h : 97 ≤ c
  · rw [decide_eq_true h, if_pos rfl]
    refine ⟨_, _, rfl, rfl, ?_⟩
    rw [le_z]
    rw [show decide (97 ≤ c ∧ c ≤ 122) = decide (c ≤ 122) by simp [h]] at q
    exact q
  · rw [decide_eq_false h, if_neg Bool.false_ne_true]
    rw [show decide (97 ≤ c ∧ c ≤ 122) = false by simp [h]] at q
    exact q
theorem dp_strs {K : PySem.W.Frag} {H : Hp} : ∀ xs : List Str, DpAll K H (xs.map V.str) (xs.map PyData.str)
  | [] => .nil
  | x :: xs => .cons (.str x) (dp_strs xs)
theorem lay_strs : ∀ xs : List Str, (∀ x ∈ xs, PyData.strOk x = true) → PyData.canLayAll0 (xs.map PyData.str) = true
  | [], _ => rfl
  | x :: xs, h => by
    simp only [List.map_cons, PyData.canLayAll0, lay_strs xs fun y hy => h y (List.mem_cons_of_mem _ hy), Bool.and_true, PyData.canLay0]
    exact h x List.mem_cons_self
theorem depth_strs : ∀ xs : List Str, PyData.depthAll (xs.map PyData.str) ≤ 1
  | [] => by simp [PyData.depthAll]
  | x :: xs => by
    have := depth_strs xs
    simp only [List.map_cons, PyData.depthAll, PyData.depth]
    omega
theorem shaped_strs (xs : List Str) (h : ∀ x ∈ xs, PyData.strOk x = true) : SeqAt.shaped (.list (xs.map PyData.str)) = true := by
  have h1 : (PyData.list (xs.map PyData.str)).canLay0 = true := by simp only [PyData.canLay0]; exact lay_strs xs h
  have h2 : (PyData.list (xs.map PyData.str)).depth ≤ 64 := by
    have := depth_strs xs
    simp only [PyData.depth]
    omega
  unfold SeqAt.shaped
  rw [h1, decide_eq_true h2]; rfl
/-- a list of texts against an empty one -/
theorem q_emp {K : PySem.W.Frag} {H : Hp} {Q : VK} {a b : Addr} {xs : List Str} (h1 : H a = some (.lst (xs.map V.str))) (h2 : H b = some (.lst [])) (o : ∀ x ∈ xs, PyData.strOk x = true) (q : Q (.bl xs.isEmpty) H) : rEqD K (.ref a) (.ref b) H Q := by
  refine ⟨_, _, .lst (SqL.of h1) (dp_strs xs), .lst (SqL.of h2) .nil, shaped_strs xs o, shaped_strs [] (fun _ z => nomatch z), ?_⟩
  have e : PyData.eqv (.list (xs.map PyData.str)) (.list []) = xs.isEmpty := by cases xs <;> rfl
  rw [e]; exact q
/-! codes of texts -/
theorem sok_iff {x : Str} : PyData.strOk x = true ↔ ∀ c ∈ x.cps.toList, c < 0x110000 := by
  unfold PyData.strOk
  rw [← Array.all_toList, List.all_eq_true]
  simp
theorem sok_app {x y : Str} (h : PyData.strOk x = true) (k : PyData.strOk y = true) : PyData.strOk (x ++ y) = true := by
  rw [sok_iff] at *
  intro c hc
  have e : (x ++ y).cps.toList = x.cps.toList ++ y.cps.toList := Array.toList_append
  rw [e] at hc
  rcases List.mem_append.mp hc with h1 | h1
  · exact h c h1
  · exact k c h1
theorem sok_cut {x : Str} (h : PyData.strOk x = true) (lo hi : Option Int) : PyData.strOk (cutS x lo hi) = true := by
  rw [sok_iff] at *
  intro c hc
  have hc' : c ∈ ((x.cps.toList.drop (HT.sIx x.length 0 lo)).take (HT.sIx x.length x.length hi - HT.sIx x.length 0 lo)) := by
    unfold cutS at hc; simpa using hc
  exact h c (List.mem_of_mem_drop (List.mem_of_mem_take hc'))
theorem sok_one {x : Str} (h : PyData.strOk x = true) {c : Nat} (hc : c ∈ x.cps.toList) : PyData.strOk ⟨#[c]⟩ = true := by
  rw [sok_iff] at *
  intro d hd
  have : d = c := by simpa using hd
  rw [this]
  exact h c hc
theorem sok_int (i : Int) : PyData.strOk ((toString i : String) : Str) = true := by
  rw [sok_iff]
  intro c hc
  refine Decidable.byContradiction fun z => PyProof.Rows.int_text_free' c ⟨by omega, by omega⟩ i hc
theorem slen_app (x y : Str) : (x ++ y).length = x.length + y.length := by
  show (x.cps ++ y.cps).size = x.cps.size + y.cps.size
  exact Array.size_append
theorem filt_emp (l : List Nat) : (((l.filter fun c => !okc c).map fun c => (⟨#[c]⟩ : Str)).isEmpty) = l.all okc := by
  induction l with
  | nil => rfl
  | cons c l ih =>
    rw [List.filter_cons, List.all_cons]
    cases h : okc c
    · rfl
    · simpa using ih
end HP
namespace HP
open PySem PySem.Spec PyProof.Rows L2
section
variable {σ : L2.St} {H : Hp} {Q : VK} {v x y : V} {te : TE} {K : PySem.W.Frag}
theorem Same.put {H H' : Hp} {D : Addr} {o : HO} (S : Same H H') (nD : H D = none) : Same H (upd H' D o) := fun b z e => by
  rw [upd_ne (ne_of_none e nD)]; exact S b z e
theorem Go.put {bx : Addr} {H H' : Hp} {D : Addr} {o : HO} (S : Go bx H H') (nD : H D = none) : Go bx H (upd H' D o) := fun b z e n => by
  rw [upd_ne (ne_of_none e nD)]; exact S b z e n
theorem Box.put {bx : Addr} {H : Hp} {D : Addr} {o : HO} {n : Int} (h : Box H bx n) (nb : D ≠ bx) : Box (upd H D o) bx n := by
  obtain ⟨a, b, c, h1, h2⟩ := h
  exact ⟨a, b, c, by rw [upd_ne (Ne.symm nb)]; exact h1, h2⟩
theorem q_lenS {s : Str} (h : s.length ≤ 100000) (q : Q (.int s.length) H) : rLenK K [.str s] H Q := ⟨_, _, rfl, ⟨by rw [sizeLine_eq]; omega, rfl⟩, q⟩
theorem q_istr {R : It → Hp → Prop} (q : te σ H fun v H1 => ∃ x, v = .str x ∧ R (L2.Its x) H1) : iStr te σ H R := q
theorem q_istr1 {s : Str} {R : Str → Prop} (q : R s) : ∃ x, V.str s = .str x ∧ R x := ⟨s, rfl, q⟩
theorem nameB_no {s : Str} (h : ¬ (1 ≤ s.length ∧ s.length ≤ 8)) : nameB (.str s) = false := by
  show (decide (1 ≤ s.length ∧ s.length ≤ 8) && _) = false
  rw [decide_eq_false h, Bool.false_and]
theorem nameB_yes {s : Str} (h : 1 ≤ s.length ∧ s.length ≤ 8) : nameB (.str s) = s.cps.toList.all okc := by
  show (decide (1 ≤ s.length ∧ s.length ≤ 8) && _) = _
  rw [decide_eq_true h, Bool.true_and]; rfl
theorem all_ids (l : List Nat) : (l.map okc).all id = l.all okc := by
  rw [List.all_map]; rfl
theorem q_lc {wi : TI} {g : TG} {tt : TT} {vs : List Nat} (q : wi σ H fun J H1 => ∀ D, H1 D = none → ∃ W : Nat → Nat → Hp → Prop, (∃ m, W 0 m (upd H1 D (.lst []))) ∧ ∀ i m H, W i m H →
  (J.stop i H ∧ Q (.ref D) H) ∨ (J.go i H ∧ ∃ Nx : Hp → Prop, (∀ H', Nx H' → ∃ m', m' < m ∧ W (i + 1) m' H') ∧ ∀ x H', J.yld i H x H' → g x (wipe σ vs) H' fun σ2 H2 => wipe σ2 vs = wipe σ vs ∧ tt σ2 H2 fun b H3 =>
    if b = true then te σ2 H3 fun y H4 => ∃ acc, H4 D = some (.lst acc) ∧ acc.length < sizeLine ∧ Nx (upd H4 D (.lst (acc ++ [y]))) else Nx H3)) : tLc wi g tt te vs σ H Q := q
theorem q_addS {s t : Str} {R : Str → Str → Prop} (h : s.length + t.length ≤ 100000) (q : R s t) : ∃ i j, V.str s = .str i ∧ V.str t = .str j ∧ i.length + j.length ≤ sizeLine ∧ R i j := ⟨s, t, rfl, rfl, by rw [sizeLine_eq]; omega, q⟩
theorem q_m1 {to : TE} {r : V → List V → Hp → VK → Prop} (q : to σ H fun x H1 => (∃ a, x = .str a) ∧ te σ H1 fun y H2 => r x [y] H2 Q) : tM1 r to te σ H Q := q
theorem q_isS1 {s : Str} {A : Prop} (q : A) : (∃ a, V.str s = .str a) ∧ A := ⟨⟨s, rfl⟩, q⟩
theorem q_sl {r : V → Option Int → Option Int → Hp → VK → Prop} {tl th : TO} (q : te σ H fun x H1 => tl σ H1 fun l H2 => th σ H2 fun u H3 => r x l u H3 Q) : tSl r te tl th σ H Q := q
theorem q_pn {R : Option Int → Hp → Prop} (q : R none H) : tNoPart σ H R := q
theorem q_ps {R : Option Int → Hp → Prop} (q : te σ H fun x H1 => ∃ i, x = .int i ∧ R (some i) H1) : tPart te σ H R := q
theorem q_ps1 {i : Int} {R : Int → Prop} (q : R i) : ∃ j, V.int i = .int j ∧ R j := ⟨i, rfl, q⟩
theorem q_slS {s : Str} {lo hi : Option Int} (h : s.length ≤ 100000) (q : Q (.str (cutS s lo hi)) H) : rSlS (.str s) lo hi H Q := ⟨s, rfl, by rw [sizeLine_eq]; omega, q⟩
theorem q_bT {b : Bool} {A B : Prop} (e : b = true) (h : A) : if b = true then A else B := by rw [if_pos e]; exact h
theorem q_bF {b : Bool} {A B : Prop} (e : b = false) (h : B) : if b = true then A else B := by rw [e, if_neg Bool.false_ne_true]; exact h
theorem q_bnT {b : Bool} {A B : Prop} (e : b = true) (h : B) : if (!b) = true then A else B := by rw [e]; exact h
theorem q_bnF {b : Bool} {A B : Prop} (e : b = false) (h : A) : if (!b) = true then A else B := by rw [e]; exact h
end
end HP
namespace HP
open PySem PySem.Spec PyProof.Rows L2
def spComm : Sp := fun vs H Q _ => ∃ a b, vs = [.int a, .int b] ∧ Q (.int ((Nat.gcd a.natAbs b.natAbs : Nat) : Int)) H
def spDueT (K : PySem.W.Frag) : Sp := fun vs H Q _ => ∃ v bx lo hi, vs = [v, .int lo, .int hi] ∧ Th K bx H v ∧ ∀ p H', Same H H' → H p = none → H' p = some (.lst [.bl (wholeB lo hi v), .bl (nameB v), .bl (numB H v)]) → Q (.ref p) H'
theorem numB_tup {H : Hp} {a : Addr} {xs : List V} (h : H a = some (.tup xs)) : numB H (.ref a) = numV xs := by
  show (match H a with | some (.tup xs) => numV xs | _ => false) = _
  rw [h]
theorem numB_not {H : Hp} {v : V} (h : ∀ a xs, v = .ref a → H a ≠ some (.tup xs)) : numB H v = isI v := by
  cases v with
  | ref a =>
    show (match H a with | some (.tup xs) => numV xs | _ => false) = false
    split
    · rename_i z; exact absurd z (h a _ rfl)
    · rfl
  | _ => rfl
theorem numV_len {xs : List V} (h : xs.length ≠ 2) : numV xs = false := by
  unfold numV
  split
  · exact absurd rfl h
  · rfl
theorem numV_two {x y : V} (h : isI x = false ∨ isI y = false) : numV [x, y] = false := by
  unfold numV
  split
  · rename_i z
    cases z
    rcases h with h | h <;> cases h
  · rfl
theorem isI_int {v : V} (h : isI v = true) : ∃ i, v = .int i := by
  cases v with
  | int i => exact ⟨i, rfl⟩
  | _ => cases h
theorem wholeB_no {lo hi : Int} {v : V} (h : isI v = false) : wholeB lo hi v = false := by
  cases v with
  | int i => cases h
  | _ => rfl
theorem nameB_nstr {v : V} (h : isStr v = false) : nameB v = false := by
  cases v with
  | str s => cases h
  | _ => rfl
theorem isStr_str {v : V} (h : isStr v = true) : ∃ s, v = .str s := by
  cases v with
  | str s => exact ⟨s, rfl⟩
  | _ => cases h
theorem wholeB_int {lo hi i : Int} : wholeB lo hi (.int i) = (!decide (i < lo) && !decide (hi < i)) := by
  show decide (lo ≤ i ∧ i ≤ hi) = _
  by_cases h : i < lo
  · rw [decide_eq_true h, decide_eq_false (by omega)]; rfl
  · by_cases k : hi < i
    · rw [decide_eq_true k, decide_eq_false (by omega), Bool.and_comm]; rfl
    · rw [decide_eq_false h, decide_eq_false k, decide_eq_true (by omega)]; rfl
theorem numV_ints {i j : Int} : numV [.int i, .int j] = (decide (1 < j) && decide (((Nat.gcd i.natAbs j.natAbs : Nat) : Int) = 1)) := by
  show decide (2 ≤ j ∧ Nat.gcd i.natAbs j.natAbs = 1) = _
  by_cases h : 1 < j
  · rw [decide_eq_true h, Bool.true_and]
    exact decide_eq_decide.mpr ⟨fun z => by omega, fun z => ⟨by omega, by omega⟩⟩
  · rw [decide_eq_false h, decide_eq_false (by omega)]; rfl
end HP
namespace HP
open PySem PySem.Spec PyProof.Rows L2
/-! ### ways that come together -/
theorem q_asgc {te : TE} {g : TG} {D : Ends} {σ : L2.St} {H : Hp} {v : V} (h : ∀ R : VK, R v H → te σ H R) (q : g v σ H D.nx) : tAsg te g D σ H := h _ q
theorem q_asgs {te : TE} {g : TG} {D : Ends} {σ : L2.St} {H : Hp} (P : V → Hp → Prop) (h : ∀ R : VK, (∀ v H', P v H' → R v H') → te σ H R) (q : ∀ v H', P v H' → g v σ H' D.nx) : tAsg te g D σ H := h _ q
theorem q_stc {t : TS} {D : Ends} {σ : L2.St} {H : Hp} (R : L2.St → Hp → Prop) (h : ∀ D' : Ends, (∀ σ' H', R σ' H' → D'.nx σ' H') → t D' σ H) (q : ∀ σ' H', R σ' H' → D.nx σ' H') : t D σ H := h D q
theorem q_argc {te : TE} {t : TA} {σ : L2.St} {H : Hp} {v : V} {R : List V → Hp → Prop} (h : ∀ R : VK, R v H → te σ H R) (q : t σ H fun xs H2 => R (v :: xs) H2) : tCons te t σ H R := h _ q
def nmB : V → Bool
  | .str s => decide (0 < s.length ∧ s.length < 9)
  | _ => false
theorem nmB_nstr {v : V} (h : isStr v = false) : nmB v = false := by
  cases v with
  | str s => cases h
  | _ => rfl
theorem nmB_str {s : Str} : nmB (.str s) = decide (0 < s.length ∧ s.length < 9) := rfl
theorem nameB_nm {v : V} (h : nmB v = false) : nameB v = false := by
  cases v with
  | str s =>
    have z : ¬ (0 < s.length ∧ s.length < 9) := of_decide_eq_false h
    exact nameB_no (fun y => z ⟨by omega, by omega⟩)
  | _ => rfl
end HP
namespace HP
open PySem PySem.Spec PyProof.Rows L2
theorem tyS_go {K : PySem.W.Frag} {bx : Addr} {H H' : Hp} {v : V} (h : Th K bx H v) (g : Go bx H H') : tyS H' v = tyS H v := by
  cases h with
  | non => rfl
  | bl b => rfl
  | int i h => rfl
  | str s h o => rfl
  | lst e n => simp only [tyS, e, g _ _ e n]
  | tup e n l h => simp only [tyS, e, g _ _ e n]
  | dct e n => simp only [tyS, e, g _ _ e n]
  | err e n nd c o => rw [tyS_err e.e, tyS_err (g _ _ e.e n)]
theorem isS_go {K : PySem.W.Frag} {bx : Addr} {H H' : Hp} {v : V} (h : Th K bx H v) (g : Go bx H H') (t : String) : isS H' v t = isS H v t := by
  unfold isS
  rw [tyS_go h g]
theorem numB_go {K : PySem.W.Frag} {bx : Addr} {H H' : Hp} {v : V} (h : Th K bx H v) (g : Go bx H H') : numB H' v = numB H v := by
  rcases isS_tup h with ⟨e, a, xs, rfl, ha, hl, hx⟩ | ⟨e, nt⟩
  · cases h with
    | tup e2 n l h2 => rw [numB_tup e2, numB_tup (g _ _ e2 n)]
    | lst e2 n => rw [ha] at e2; cases e2
    | dct e2 n => rw [ha] at e2; cases e2
    | err e2 n nd c o => exact absurd (Option.some.inj (e2.e.symm.trans ha)) exo_tup
  · rw [numB_not nt]
    rcases isS_tup (h.go g) with ⟨e', _⟩ | ⟨e', nt'⟩
    · rw [isS_go h g, e] at e'; cases e'
    · exact numB_not nt'
end HP
namespace HP
open PySem PySem.Spec PyProof.Rows L2
/-! ### texts that are drawn -/
theorem jn_len {sep : Str} (hs : sep.length = 0) : ∀ ys : List Str, (Str.join sep ys).length = (ys.map (·.length)).sum
  | [] => rfl
  | [x] => by simp [Str.join]
  | x :: y :: r => by
    rw [PyProof.Rows.join_cons_cons, slen_app, slen_app, hs, jn_len hs (y :: r)]
    simp only [List.map_cons, List.sum_cons]; omega
theorem jn_ok {ys : List Str} (h : ∀ y ∈ ys, PyData.strOk y = true) {sep : Str} (hs : PyData.strOk sep = true) : PyData.strOk (Str.join sep ys) = true := by
  rw [sok_iff] at *
  intro c hc
  rcases (PyProof.Rows.mem_join sep c ys).mp hc with ⟨t, h1, h2⟩ | ⟨_, h2⟩
  · exact sok_iff.mp (h t h1) c h2
  · exact hs c h2
theorem ones_sum : ∀ {ys : List Str}, (∀ y ∈ ys, y.length = 1) → (ys.map (·.length)).sum = ys.length
  | [], _ => rfl
  | y :: ys, h => by
    rw [List.map_cons, List.sum_cons, ones_sum fun z hz => h z (List.mem_cons_of_mem _ hz), h y List.mem_cons_self, List.length_cons]; omega
/-- signs, one each -/
def Ones (ss : List Str) : Prop := ∀ s ∈ ss, s.length = 1 ∧ PyData.strOk s = true
theorem Ones.nil : Ones [] := fun _ h => nomatch h
theorem Ones.snoc {ss : List Str} {s : Str} (h : Ones ss) (a : s.length = 1) (b : PyData.strOk s = true) : Ones (ss ++ [s]) := fun x hx => by
  rcases List.mem_append.mp hx with h1 | h1
  · exact h x h1
  · rw [List.mem_singleton.mp h1]; exact ⟨a, b⟩
theorem q_ixS {H : Hp} {Q : VK} {z : Str} {d : Int} (h0 : 0 ≤ d) (h1 : d < z.length) (hl : z.length ≤ 100000) (ok : PyData.strOk z = true) (q : ∀ m : Str, m.length = 1 → PyData.strOk m = true → Q (.str m) H) : rIxS (.str z) (.int d) H Q := by
  obtain ⟨j, rfl⟩ := Int.eq_ofNat_of_zero_le h0
  have hj : j < z.cps.toList.length := by
    rw [Array.length_toList]
    have : z.length = z.cps.size := rfl
    omega
  exact ⟨z, j, z.cps.toList[j], rfl, rfl, by rw [sizeLine_eq]; omega, atI_nat (List.getElem?_eq_getElem hj), q _ rfl (sok_one ok (List.getElem_mem hj))⟩
/-- ''.join of signs -/
theorem jn_lim {ss : List Str} (o : Ones ss) (l : ss.length ≤ 1000000) : (ss.map (·.length)).sum + ss.length * ("" : Str).length ≤ 16777216 := by
  rw [ones_sum fun y hy => (o y hy).1, show ("" : Str).length = 0 from rfl]; omega
theorem jn_ex {ss : List Str} (o : Ones ss) : ∃ t : Str, Txt.join "" ss = t ∧ t.length = ss.length ∧ PyData.strOk t = true := by
  refine ⟨Str.join "" ss, PySem.StrLaws.glued_eq_join _ _, ?_, jn_ok (fun y hy => (o y hy).2) (by decide +kernel)⟩
  rw [jn_len rfl, ones_sum fun y hy => (o y hy).1]
def spSigns : Sp := fun vs H Q _ => vs = [] ∧ ∀ s : Str, s.length = 95 → PyData.strOk s = true → Q (.str s) H
def spLetters : Sp := fun vs H Q _ => ∃ bx n, vs = [.ref bx] ∧ Box H bx n ∧ n < 800000 ∧ ∀ (s : Str) H', s.length ≤ 30 → PyData.strOk s = true → Go bx H H' → Box H' bx (n + 30) → Q (.str s) H'
end HP
namespace HP
open PySem PySem.Spec PyProof.Rows L2
theorem al_nil {P : V → Prop} : ∀ v ∈ ([] : List V), P v := fun _ h => nomatch h
theorem al_cons {P : V → Prop} {x : V} {xs : List V} (h : P x) (t : ∀ v ∈ xs, P v) : ∀ v ∈ x :: xs, P v := fun v hv => by
  rcases List.mem_cons.mp hv with e | e
  · rw [e]; exact h
  · exact t v e
theorem al_app {P : V → Prop} {xs ys : List V} (h : ∀ v ∈ xs, P v) (t : ∀ v ∈ ys, P v) : ∀ v ∈ xs ++ ys, P v := fun v hv => by
  rcases List.mem_append.mp hv with e | e
  · exact h v e
  · exact t v e
theorem q_tpc {tk tv : TE} {r : List (TE × TE)} {σ : L2.St} {H : Hp} {R : List (V × V) → Hp → Prop} (q : tk σ H fun x H1 => tv σ H1 fun y H2 => tPairs r σ H2 fun ps H3 => R ((x, y) :: ps) H3) : tPairs ((tk, tv) :: r) σ H R := q
theorem q_tpn {σ : L2.St} {H : Hp} {R : List (V × V) → Hp → Prop} (q : R [] H) : tPairs [] σ H R := q
theorem q_dsp {trs : List (TE × TE)} {σ : L2.St} {H : Hp} {Q : VK} (q : ∀ p, H p = none → tPairs trs σ (upd H p (.dK [])) fun ps H2 => H2 p = some (.dK []) ∧ ∃ kvs : List (Key × V), ps = kvs.map (fun kv => (kV kv.1, kv.2)) ∧ kvs.length ≤ 15 ∧ Q (.ref p) (upd H2 p (.dK (mergeK [] kvs)))) : tDisp trs σ H Q := q
theorem q_reprB3 {K : PySem.W.Frag} {H : Hp} {Q : VK} {a : Addr} {b1 b2 b3 : Bool} (h : H a = some (.lst [.bl b1, .bl b2, .bl b3])) (q : Q (.str (PyData.list [.bool b1, .bool b2, .bool b3]).shown) H) : rRepr K [.ref a] H Q :=
  ⟨a, .list [.bool b1, .bool b2, .bool b3], rfl, .lst (SqL.of h) (.cons (.bl _) (.cons (.bl _) (.cons (.bl _) .nil))), rfl, rfl, by cases b1 <;> cases b2 <;> cases b3 <;> decide, by cases b1 <;> cases b2 <;> cases b3 <;> decide +kernel, q⟩
theorem int_len {i : Int} (h : Bt 1900 i) : ((toString i : String) : Str).length ≤ 40000 := by
  have hl := h.log
  exact Nat.le_trans (int_text_len_1921 (i := i) (by omega)) (by decide)
abbrev ThL (K : PySem.W.Frag) (bx : Addr) (H : Hp) (xs : List V) : Prop := ∀ v ∈ xs, Th K bx H v
theorem ThL.go {K : PySem.W.Frag} {bx : Addr} {H H' : Hp} {xs : List V} (h : ThL K bx H xs) (g : Go bx H H') : ThL K bx H' xs := fun v hv => (h v hv).go g
theorem ThL.same {K : PySem.W.Frag} {bx : Addr} {H H' : Hp} {xs : List V} (h : ThL K bx H xs) (g : Same H H') : ThL K bx H' xs := fun v hv => (h v hv).same g
def spTuples (K : PySem.W.Frag) : Sp := fun vs H Q _ => ∃ bx n, vs = [.ref bx] ∧ Box H bx n ∧ n < 800000 ∧ ∀ p xs H', H' p = some (.lst xs) → p ≠ bx → xs.length ≤ 20 → ThL K bx H' xs → Go bx H H' → Box H' bx (n + 200) → Q (.ref p) H'
def spThings (K : PySem.W.Frag) : Sp := fun vs H Q _ => ∃ bx n lo hi, vs = [.ref bx, .int lo, .int hi] ∧ Bt 600 lo ∧ Bt 600 hi ∧ Box H bx n ∧ n < 700000 ∧ ∀ p xs H', H' p = some (.lst xs) → p ≠ bx → ThL K bx H' xs → Go bx H H' → Q (.ref p) H'
theorem Erv.go {K : PySem.W.Frag} {H H' : Hp} {a C d bx : Addr} {fs : List (Str × V)} (h : Erv K H a C d fs) (g : Go bx H H') (na : a ≠ bx) (nd : d ≠ bx) : Erv K H' a C d fs := ⟨g _ _ h.e na, g _ _ h.f nd⟩
end HP
namespace HP
open PySem PySem.Spec PyProof.Rows L2
theorem bt_sub1 {x : Int} (h : Bt 600 x) : Bt 700 (x - 1) := (h.sub ((⟨by decide⟩ : Bt 1 1).mono (by decide : 1 ≤ 1))).mono (by decide)
theorem bt_add1 {x : Int} (h : Bt 600 x) : Bt 700 (x + 1) := (h.add ((⟨by decide⟩ : Bt 1 1).mono (by decide : 1 ≤ 1))).mono (by decide)
end HP
namespace HP
open PySem PySem.Spec PyProof.Rows L2
/-! ### numbers as texts: what the codes say -/
abbrev cs (s : Str) : List Nat := s.cps.toList
theorem str_ext {s t : Str} (h : cs s = cs t) : s = t := by
  obtain ⟨a⟩ := s
  obtain ⟨b⟩ := t
  exact congrArg _ (Array.toList_inj.mp h)
theorem str_iff {s t : Str} : s = t ↔ cs s = cs t := ⟨fun h => h ▸ rfl, str_ext⟩
theorem cs_len (s : Str) : (cs s).length = s.length := Array.length_toList
theorem cs_app (s t : Str) : cs (s ++ t) = cs s ++ cs t := Array.toList_append
theorem cs_one (c : Nat) : cs ⟨#[c]⟩ = [c] := rfl
def isDg (c : Nat) : Bool := decide (48 ≤ c ∧ c ≤ 57)
def figs (l : List Nat) : Bool := decide (1 ≤ l.length ∧ l.length ≤ 60) && (!(decide (l[0]? = some 48) && !decide (l = [48])) && l.all isDg)
def dval (l : List Nat) : Nat := PySem.NumText.digitsVal l
def cutA (l : List Nat) : List Nat := l.takeWhile fun c => c != 47
def cutB (l : List Nat) : List Nat := l.dropWhile fun c => c != 47
def sgd (neg : Bool) (d : List Nat) : Int := if neg then -(dval d : Int) else (dval d : Int)
def numD (neg : Bool) (d r : List Nat) : Option (Int × Int) :=
  if figs d then
    match r with
    | [] => some (sgd neg d, 1)
    | _ :: b => if figs b && !decide (b = [48]) then some (sgd neg d, (dval b : Int)) else none
  else none
def numOf (l : List Nat) : Option (Int × Int) := if l[0]? = some 45 then numD true (cutA l.tail) (cutB l.tail) else numD false (cutA l) (cutB l)
def numT : V → Option (Int × Int)
  | .str s => numOf (cs s)
  | _ => none
theorem figs_dig {l : List Nat} (h : figs l = true) : PySem.NumText.AllDigits l := by
  unfold figs at h
  simp only [Bool.and_eq_true, List.all_eq_true] at h
  exact fun c hc => of_decide_eq_true (h.2.2 c hc)
theorem figs_len {l : List Nat} (h : figs l = true) : 1 ≤ l.length ∧ l.length ≤ 60 := by
  unfold figs at h
  simp only [Bool.and_eq_true, decide_eq_true_eq] at h
  exact h.1
theorem dval_fold : ∀ (l : List Nat) (a : Nat), PySem.NumText.AllDigits l → l.foldl (fun acc c => acc * 10 + (c - 48)) a < (a + 1) * 10 ^ l.length
  | [], a, _ => by simp
  | c :: l, a, h => by
    have hc := h.head
    have := dval_fold l (a * 10 + (c - 48)) h.tail
    rw [List.foldl_cons, List.length_cons, Nat.pow_succ]
    refine Nat.lt_of_lt_of_le this ?_
    rw [Nat.mul_comm (10 ^ l.length) 10, ← Nat.mul_assoc]
    exact Nat.mul_le_mul_right _ (by omega)
theorem dval_lt {l : List Nat} (h : figs l = true) : dval l < 10 ^ 60 := by
  have := dval_fold l 0 (figs_dig h)
  have h2 := (figs_len h).2
  have h3 : (10 : Nat) ^ l.length ≤ 10 ^ 60 := Nat.pow_le_pow_right (by decide) h2
  have h4 : dval l < (0 + 1) * 10 ^ l.length := this
  omega
theorem fold_ge : ∀ (l : List Nat) (a : Nat), a ≤ l.foldl (fun acc c => acc * 10 + (c - 48)) a
  | [], a => Nat.le_refl a
  | c :: l, a => by
    rw [List.foldl_cons]
    exact Nat.le_trans (by omega) (fold_ge l (a * 10 + (c - 48)))
theorem dval_pos {l : List Nat} (h : figs l = true) (n : l ≠ [48]) : 0 < dval l := by
  have hd := figs_dig h
  have hl := figs_len h
  cases l with
  | nil => simp at hl
  | cons c l =>
    have hc := hd.head
    have h0 : c ≠ 48 := fun z => by
      subst z
      unfold figs at h
      rw [decide_eq_true (show (48 :: l)[0]? = some 48 from rfl), decide_eq_false n] at h
      simp at h
    have := fold_ge l (0 * 10 + (c - 48))
    have e : dval (c :: l) = l.foldl (fun acc c => acc * 10 + (c - 48)) (0 * 10 + (c - 48)) := rfl
    rw [e]
    omega
theorem dval_zero : dval [48] = 0 := rfl
theorem bt_dval {l : List Nat} (h : figs l = true) : Bt 200 (dval l : Int) := ⟨by
  have := dval_lt h
  have e : (10 : Nat) ^ 60 < 2 ^ 200 := by decide +kernel
  omega⟩
theorem bt_sgd {l : List Nat} {n : Bool} (h : figs l = true) : Bt 200 (sgd n l) := by
  unfold sgd
  split
  · exact (bt_dval h).neg
  · exact bt_dval h
theorem text_int {s : Str} (h : figs (cs s) = true) : PySem.intText? s = some (sgd false (cs s)) := by
  have hl := figs_len h
  have h2 := cs_len s
  refine PySem.intText_digits (figs_dig h) (fun z => ?_) (by omega)
  rw [show cs s = [] from z] at hl
  simp at hl
theorem text_neg {s : Str} {d : List Nat} (e : cs s = 45 :: d) (h : figs d = true) : PySem.intText? s = some (sgd true d) := by
  have hl := figs_len h
  have h2 := cs_len s
  rw [e, List.length_cons] at h2
  exact PySem.intText_neg e (figs_dig h) (fun z => by rw [z] at hl; simp at hl) (by omega)
/-! cutting at the first stroke -/
theorem cut_none {l : List Nat} (h : 47 ∉ l) : cutA l = l ∧ cutB l = [] := by
  unfold cutA cutB
  induction l with
  | nil => exact ⟨rfl, rfl⟩
  | cons c l ih =>
    have hc : (c != 47) = true := bne_iff_ne.mpr fun z => h (by rw [z]; exact List.mem_cons_self)
    obtain ⟨h1, h2⟩ := ih fun z => h (List.mem_cons_of_mem _ z)
    rw [List.takeWhile_cons, List.dropWhile_cons, hc]
    exact ⟨congrArg (c :: ·) h1, h2⟩
theorem cut_at {l : List Nat} : ∀ {i : Nat}, l[i]? = some 47 → (∀ k, k < i → l[k]? ≠ some 47) → cutA l = l.take i ∧ cutB l = l.drop i := by
  unfold cutA cutB
  induction l with
  | nil => intro i h; simp at h
  | cons c l ih =>
    intro i h n
    cases i with
    | zero =>
      have e : c = 47 := by simpa using h
      subst e
      exact ⟨rfl, rfl⟩
    | succ i =>
      have hc : (c != 47) = true := bne_iff_ne.mpr fun z => n 0 (Nat.succ_pos i) (by rw [z]; rfl)
      obtain ⟨h1, h2⟩ := ih (i := i) (by simpa using h) fun k hk => by simpa using n (k + 1) (Nat.succ_lt_succ hk)
      rw [List.takeWhile_cons, List.dropWhile_cons, hc]
      exact ⟨congrArg (c :: ·) h1, h2⟩
theorem cutB_head : ∀ {l : List Nat} {c : Nat} {b : List Nat}, cutB l = c :: b → c = 47
  | [], c, b, h => nomatch h
  | d :: l, c, b, h => by
    unfold cutB at h
    rw [List.dropWhile_cons] at h
    by_cases e : d = 47
    · subst e
      cases h
      rfl
    · rw [if_pos (bne_iff_ne.mpr e)] at h
      exact cutB_head (l := l) h
/-- what partition tells -/
structure Part (s p q r : Str) : Prop where
  a : cs p = cutA (cs s)
  b : (cutB (cs s) = [] ∧ q = "" ∧ r = "") ∨ (cutB (cs s) = 47 :: cs r ∧ q = "/")
  lp : p.length ≤ s.length
  lr : r.length ≤ s.length
theorem part_of (s : Str) : Part s (Txt.partition s "/").1 (Txt.partition s "/").2.1 (Txt.partition s "/").2.2 := by
  have at1 : ∀ i, StrLaws.At s "/" s.length i ↔ (cs s)[i]? = some 47 := fun i => StrLaws.subAt_one s 47 i
  have hf := PyProof.Rows.fact_partition s "/"
  rcases PyProof.Rows.partition_whole s "/" with ⟨e, n⟩ | ⟨i, e, h, n⟩
  · have hn : 47 ∉ cs s := fun z => by
      obtain ⟨i, hi⟩ := List.mem_iff_getElem?.mp z
      exact n i ((at1 i).mpr hi)
    obtain ⟨h1, h2⟩ := cut_none hn
    rw [e] at hf ⊢
    exact ⟨h1.symm, .inl ⟨h2, rfl, rfl⟩, hf.1, Nat.zero_le _⟩
  · obtain ⟨h1, h2⟩ := cut_at ((at1 i).mp h) fun k hk z => n k hk ((at1 k).mpr z)
    have hi : i < (cs s).length := (List.getElem?_eq_some_iff.mp ((at1 i).mp h)).1
    have hg : (cs s)[i] = 47 := (List.getElem?_eq_some_iff.mp ((at1 i).mp h)).2
    rw [e] at hf ⊢
    refine ⟨?_, .inr ⟨?_, rfl⟩, hf.1, hf.2.2⟩
    · rw [h1]
      show (Builtin.Str.strSub s 0 i).cps.toList = _
      rw [StrLaws.strSub_toList]; simp
    · rw [h2]
      show _ = 47 :: (Builtin.Str.strSub s (i + 1) s.length).cps.toList
      rw [StrLaws.strSub_toList, List.drop_eq_getElem_cons hi, hg, List.take_of_length_le]
      rw [List.length_drop, cs_len]; omega
theorem cutA_neg {l : List Nat} (h : l[0]? = some 45) : cutA l = 45 :: cutA l.tail ∧ cutB l = cutB l.tail := by
  cases l with
  | nil => cases h
  | cons c l =>
    have e : c = 45 := by simpa using h
    subst e
    exact ⟨rfl, rfl⟩
theorem cutA_pos {l : List Nat} (h : l[0]? ≠ some 45) : (cutA l)[0]? ≠ some 45 := by
  cases l with
  | nil => exact fun z => nomatch z
  | cons c l =>
    unfold cutA
    rw [List.takeWhile_cons]
    split
    · exact h
    · exact fun z => nomatch z
theorem rmp_yes {s : Str} {d : List Nat} (e : cs s = 45 :: d) : cs (Txt.removeprefix s "-") = d := by
  have h : Builtin.Str.subAt s "-" 0 = true := by
    rw [StrLaws.subAt_eq, List.drop_zero]
    show ((cs s).take 1 == [45]) = true
    rw [e]; rfl
  unfold Txt.removeprefix
  rw [if_pos h]
  show cs (if s.length - 1 == s.length then s else Builtin.Str.strSub s 1 s.length) = d
  have hl := cs_len s
  rw [e, List.length_cons] at hl
  rw [if_neg (by rw [beq_iff_eq]; omega)]
  show (Builtin.Str.strSub s 1 s.length).cps.toList = d
  rw [StrLaws.strSub_toList, show s.cps.toList = 45 :: d from e]
  show (d.take (s.length - 1)) = d
  rw [List.take_of_length_le]; omega
theorem rmp_no {s : Str} (n : (cs s)[0]? ≠ some 45) : Txt.removeprefix s "-" = s := by
  have h : Builtin.Str.subAt s "-" 0 = false := by
    rw [StrLaws.subAt_eq, List.drop_zero]
    show ((cs s).take 1 == [45]) = false
    cases e : cs s with
    | nil => rfl
    | cons c l =>
      rw [e] at n
      have hc : c ≠ 45 := fun z => n (by rw [z]; rfl)
      show ([c] == [45]) = false
      exact beq_eq_false_iff_ne.mpr fun z => hc (List.cons.inj z).1
  unfold Txt.removeprefix
  rw [if_neg (by rw [h]; exact Bool.false_ne_true)]
  rfl
end HP
namespace HP
open PySem PySem.Spec PyProof.Rows L2
/-! ### cutting at every stroke -/
def spl : List Nat → List Nat × List (List Nat)
  | [] => ([], [])
  | c :: l => if c = 47 then ([], (spl l).1 :: (spl l).2) else (c :: (spl l).1, (spl l).2)
def stp (ps : List (List Nat)) (c : Nat) : List (List Nat) := if c = 47 then ps ++ [[]] else ps.dropLast ++ [(ps.getLast?.getD []) ++ [c]]
theorem stp_snoc (pre : List (List Nat)) (x : List Nat) (c : Nat) : stp (pre ++ [x]) c = if c = 47 then (pre ++ [x]) ++ [[]] else pre ++ [x ++ [c]] := by
  unfold stp
  split
  · rfl
  · rw [List.dropLast_concat, List.getLast?_concat]; rfl
theorem fold_spl : ∀ (l : List Nat) (pre : List (List Nat)) (x : List Nat), l.foldl stp (pre ++ [x]) = pre ++ (x ++ (spl l).1) :: (spl l).2
  | [], pre, x => by simp [spl]
  | c :: l, pre, x => by
    rw [List.foldl_cons, stp_snoc]
    unfold spl
    split
    · rw [fold_spl l (pre ++ [x]) []]; simp
    · rw [fold_spl l pre (x ++ [c])]; simp
theorem fold_spl0 (l : List Nat) : l.foldl stp [[]] = (spl l).1 :: (spl l).2 := fold_spl l [] []
theorem spl_47 (l : List Nat) : spl (47 :: l) = ([], (spl l).1 :: (spl l).2) := rfl
theorem spl_ne {c : Nat} (h : c ≠ 47) (l : List Nat) : spl (c :: l) = (c :: (spl l).1, (spl l).2) := by
  show (if c = 47 then _ else _) = _
  rw [if_neg h]
theorem cut_47 (l : List Nat) : cutA (47 :: l) = [] ∧ cutB (47 :: l) = 47 :: l := ⟨rfl, rfl⟩
theorem cut_ne {c : Nat} (h : c ≠ 47) (l : List Nat) : cutA (c :: l) = c :: cutA l ∧ cutB (c :: l) = cutB l := by
  have e : (c != 47) = true := bne_iff_ne.mpr h
  unfold cutA cutB
  rw [List.takeWhile_cons, List.dropWhile_cons, e]
  exact ⟨rfl, rfl⟩
theorem spl_cut : ∀ l : List Nat, cutA l = (spl l).1 ∧ (((spl l).2 = [] ∧ cutB l = []) ∨ ∃ b, cutB l = 47 :: b ∧ (spl l).2 = (spl b).1 :: (spl b).2)
  | [] => ⟨rfl, .inl ⟨rfl, rfl⟩⟩
  | c :: l => by
    obtain ⟨h1, h2⟩ := spl_cut l
    by_cases e : c = 47
    · subst e
      rw [spl_47, (cut_47 l).1, (cut_47 l).2]
      exact ⟨rfl, .inr ⟨l, rfl, rfl⟩⟩
    · rw [spl_ne e, (cut_ne e l).1, (cut_ne e l).2]
      exact ⟨congrArg (c :: ·) h1, h2⟩
theorem spl_one : ∀ {l : List Nat}, (spl l).2 = [] → (spl l).1 = l
  | [], _ => rfl
  | c :: l, h => by
    unfold spl at h ⊢
    by_cases e : c = 47
    · rw [if_pos e] at h; cases h
    · rw [if_neg e] at h ⊢
      exact congrArg (c :: ·) (spl_one h)
theorem spl_more : ∀ {l : List Nat}, (spl l).2 ≠ [] → 47 ∈ l
  | [], h => absurd rfl h
  | c :: l, h => by
    unfold spl at h
    by_cases e : c = 47
    · rw [e]; exact List.mem_cons_self
    · rw [if_neg e] at h
      exact List.mem_cons_of_mem _ (spl_more h)
theorem figs_no {l : List Nat} (h : 47 ∈ l) : figs l = false := by
  cases e : figs l with
  | false => rfl
  | true => exact absurd (figs_dig e 47 h) (by decide)
/-- what the law's own reading finds, by its pieces -/
def due2 (neg : Bool) (p : List Nat) (r : List (List Nat)) : Option (Int × Int) :=
  if figs p = false ∨ r.any (fun x => !figs x) = true ∨ 1 < r.length then none
  else match r with
    | [] => some (sgd neg p, 1)
    | b :: _ => if dval b = 0 then none else some (sgd neg p, (dval b : Int))
theorem due2_numD (neg : Bool) (l : List Nat) : due2 neg (spl l).1 (spl l).2 = numD neg (cutA l) (cutB l) := by
  obtain ⟨h1, h2⟩ := spl_cut l
  unfold due2 numD
  rw [h1]
  by_cases hf : figs (spl l).1 = true
  · rw [if_pos hf]
    rcases h2 with ⟨h2, h3⟩ | ⟨b, h3, h2⟩
    · rw [h2, h3]
      rw [if_neg (by simp [hf])]
    · rw [h2, h3]
      by_cases hr : (spl b).2 = []
      · have hb := spl_one hr
        rw [hr, hb]
        by_cases hfb : figs b = true
        · rw [if_neg (by simp [hf, hfb])]
          show (if dval b = 0 then none else some (sgd neg (spl l).1, (dval b : Int))) = if (figs b && !decide (b = [48])) = true then some (sgd neg (spl l).1, (dval b : Int)) else none
          by_cases hz : b = [48]
          · rw [hz, dval_zero]; simp
          · have := dval_pos hfb hz
            rw [if_neg (by omega), hfb, decide_eq_false hz]; simp
        · have hfb : figs b = false := by simpa using hfb
          rw [if_pos (by simp [hfb])]
          show none = if (figs b && !decide (b = [48])) = true then some (sgd neg (spl l).1, (dval b : Int)) else none
          rw [hfb]; simp
      · have hfb := figs_no (spl_more hr)
        have hl : 0 < (spl b).2.length := List.length_pos_iff.mpr hr
        rw [if_pos (.inr (.inr (by rw [List.length_cons]; omega)))]
        show none = if (figs b && !decide (b = [48])) = true then some (sgd neg (spl l).1, (dval b : Int)) else none
        rw [hfb]; simp
  · have hf : figs (spl l).1 = false := by simpa using hf
    rw [if_pos (.inl hf), if_neg (by rw [hf]; exact Bool.false_ne_true)]
theorem due2_numOf (l : List Nat) : numOf l = if l[0]? = some 45 then due2 true (spl l.tail).1 (spl l.tail).2 else due2 false (spl l).1 (spl l).2 := by
  unfold numOf
  rw [due2_numD, due2_numD]
end HP
namespace HP
open PySem PySem.Spec PyProof.Rows L2
/-! ### numbers as texts: promises, readings -/
theorem pe_globS {X : Cx} {x : Str} {z : Str} {pos : Pos} (hg : Gl X x) (h : ∃ t, X.mg x = some (.str z t)) (hd : (x == ("__debug__" : Str)) = false := by decide) : PE X (.Name x pos) (tC (.str z)) := by
  obtain ⟨t, e⟩ := h
  exact pe_glob hg e ⟨t, rfl⟩ hd
def rMulS : R2 := fun x y H Q => ∃ z n, x = .str z ∧ y = .int n ∧ MulOk z n ∧ Q (.str (Txt.mul z n)) H
theorem op_mulS {X : Cx} : OpR X (binaryOp .Mult) rMulS := by
  intro pins s σ H x y v u Q I rx ry h
  obtain ⟨z, n, rfl, rfl, hm, q⟩ := h
  obtain ⟨t, rfl⟩ := rx
  obtain ⟨t', rfl⟩ := ry
  exact PySem.SB.mul hm fun t' k => ⟨.str (Txt.mul z n), H, I.tok _, ⟨_, rfl⟩, q⟩
def rTI : List V → Hp → VK → Prop := fun xs H Q => ∃ a n, xs = [.str a] ∧ PySem.intText? a = some n ∧ a.length ≤ 640 ∧ Q (.int n) H
theorem call_intT {X : Cx} : CallR X (.type "int") rTI := call_int_str
def rInSg : R2 := fun x y H Q => ∃ (c : Nat) (z : Str), x = .str ⟨#[c]⟩ ∧ y = .str z ∧ Q (.bl (decide (c ∈ z.cps.toList))) H
theorem op_inSg {X : Cx} : OpR X (compareOp .In) rInSg := op_in_sign
def spFigs : Sp := fun vs H Q _ => ∃ s : Str, vs = [.str s] ∧ s.length ≤ 40000 ∧ ∀ H', Same H H' → Q (.bl (figs (cs s))) H'
def spNumOf (K : PySem.W.Frag) : Sp := fun vs H Q _ => ∃ v bx, vs = [v] ∧ Th K bx H v ∧ (∀ H', Same H H' → numT v = none → Q .non H') ∧ ∀ t b u t' b' H', numT v = some (t, b) → Same H H' → Num H' u t' b' → Low t b t' b' → Q u H'
/-- the text that writes a number -/
def numS (t b : Int) : Str := if b = 1 then ((toString t : String) : Str) else ((toString t : String) : Str) ++ "/" ++ ((toString b : String) : Str)
def spNumText : Sp := fun vs H Q _ => ∃ v t b, vs = [v] ∧ Num H v t b ∧ Bt 1800 t ∧ Bt 1800 b ∧ ∀ H', Same H H' → Q (.str (numS t b)) H'
def spPlainly : Sp := fun vs H Q _ => ∃ s : Str, vs = [.str s] ∧ s.length ≤ 40000 ∧ Q (if figs (cs s) = true then .int (dval (cs s)) else .non) H
/-- one text, sign by sign -/
theorem for_str {x : Str} {g : TG} {tb : TS} {D : Ends} {σ : L2.St} {H : Hp} (Pv : Nat → L2.St → Hp → Prop) (h0 : Pv 0 σ H)
    (hs : ∀ i c σ H, x.cps[i]? = some c → Pv i σ H → g (.str ⟨#[c]⟩) σ H fun σ2 H2 => tb { D with nx := Pv (i + 1), ct := Pv (i + 1), bk := D.nx } σ2 H2) (hd : ∀ σ H, Pv x.cps.size σ H → D.nx σ H) : ∃ W : Nat → Nat → L2.St → Hp → Prop, (∃ m, W 0 m σ H) ∧ ∀ i m σ H, W i m σ H →
      ((L2.Its x).stop i H ∧ D.nx σ H) ∨ ((L2.Its x).go i H ∧ ∃ N : L2.St → Hp → Prop, (∀ σ' H', N σ' H' → ∃ m', m' < m ∧ W (i + 1) m' σ' H') ∧ ∀ y H', (L2.Its x).yld i H y H' → g y σ H' fun σ2 H2 => tb { D with nx := N, ct := N, bk := D.nx } σ2 H2) := by
  refine ⟨fun i m σ H => m = x.cps.size - i ∧ i ≤ x.cps.size ∧ Pv i σ H, ⟨_, rfl, Nat.zero_le _, h0⟩, fun i m σ H ⟨hm, hi, p⟩ => ?_⟩
  by_cases z : i < x.cps.size
  · refine .inr ⟨z, Pv (i + 1), fun σ' H' p' => ⟨x.cps.size - (i + 1), by omega, rfl, z, p'⟩, fun y H' hy => ?_⟩
    obtain ⟨e, c, hc, ey⟩ := hy
    subst e ey
    exact hs i c σ _ hc p
  · have e : i = x.cps.size := by omega
    rw [e] at p
    exact .inl ⟨by rw [e]; exact Nat.le_refl _, hd σ H p⟩
theorem lt_one (c a : Nat) : decide (([c] : List Nat) < [a]) = decide (c < a) := by
  simp only [List.cons_lt_cons_iff, List.not_lt_nil, and_false, or_false]
theorem q_chr2 {A B : Str} {a b c : Nat} (hA : cs A = [a]) (hB : cs B = [b]) {σ : L2.St} {H : Hp} {Q : VK} {i : Nat} (hs : σ[i]? = some (some (.str ⟨#[c]⟩))) (q : Q (.bl (decide (a ≤ c ∧ c ≤ b))) H) :
    tChain (fun x y H Q => ∃ i j, x = .str i ∧ y = .str j ∧ Q (.bl (!decide (j.cps.toList < i.cps.toList))) H) (fun x y H Q => ∃ i j, x = .str i ∧ y = .str j ∧ Q (.bl (!decide (j.cps.toList < i.cps.toList))) H) (tC (.str A)) (tVar i) (tC (.str B)) σ H Q := by
  refine ⟨_, hs, _, _, rfl, rfl, _, rfl, ?_⟩
  rw [show A.cps.toList = [a] from hA, show (⟨#[c]⟩ : Str).cps.toList = [c] from rfl, lt_one]
  by_cases h : c < a
  · rw [decide_eq_true h, Bool.not_true, if_neg Bool.false_ne_true]
    rw [decide_eq_false (by omega)] at q
    exact q
  · rw [decide_eq_false h, Bool.not_false, if_pos rfl]
    refine ⟨_, _, rfl, rfl, ?_⟩
    rw [show B.cps.toList = [b] from hB, show (⟨#[c]⟩ : Str).cps.toList = [c] from rfl, lt_one]
    rw [show decide (a ≤ c ∧ c ≤ b) = !decide (b < c) by
      by_cases k : b < c
      · rw [decide_eq_true k, decide_eq_false (by omega)]; rfl
      · rw [decide_eq_false k, decide_eq_true (by omega)]; rfl] at q
    exact q
theorem q_ixS0 {H : Hp} {Q : VK} {z : Str} {c : Nat} {l : List Nat} (e : cs z = c :: l) (hl : z.length ≤ 100000) (q : Q (.str ⟨#[c]⟩) H) : rIxS (.str z) (.int 0) H Q :=
  ⟨z, 0, c, rfl, rfl, by rw [sizeLine_eq]; omega, atI_nat (j := 0) (by rw [show z.cps.toList = c :: l from e]; rfl), q⟩
theorem q_eqStr {H : Hp} {Q : VK} {x y : Str} {b : Bool} (e : decide (cs x = cs y) = b) (q : Q (.bl b) H) : rEq (.str x) (.str y) H Q := ⟨rfl, by
  rw [show decide (V.str x = V.str y) = b by
    rw [← e]
    exact decide_eq_decide.mpr ⟨fun h => by cases h; rfl, fun h => by rw [str_ext h]⟩]
  exact q⟩
theorem q_neStr {H : Hp} {Q : VK} {x y : Str} {b : Bool} (e : (!decide (cs x = cs y)) = b) (q : Q (.bl b) H) : rNe (.str x) (.str y) H Q := ⟨rfl, by
  rw [show (!decide (V.str x = V.str y)) = b by
    rw [← e]
    exact congrArg _ (decide_eq_decide.mpr ⟨fun h => by cases h; rfl, fun h => by rw [str_ext h]⟩)]
  exact q⟩
theorem figs_short {l : List Nat} (h : ¬ (1 ≤ l.length ∧ l.length ≤ 60)) : figs l = false := by
  unfold figs
  rw [decide_eq_false h, Bool.false_and]
theorem figs_zero {l : List Nat} (h : l[0]? = some 48) (n : l ≠ [48]) : figs l = false := by
  unfold figs
  rw [decide_eq_true h, decide_eq_false n]
  simp
theorem figs_all {l : List Nat} (h : 1 ≤ l.length ∧ l.length ≤ 60) (k : l[0]? ≠ some 48 ∨ l = [48]) : figs l = l.all isDg := by
  unfold figs
  rw [decide_eq_true h, Bool.true_and]
  rcases k with k | k
  · rw [decide_eq_false k]; simp
  · rw [decide_eq_true k]; simp
theorem cs_figs : cs "0123456789" = [48, 49, 50, 51, 52, 53, 54, 55, 56, 57] := by decide +kernel
theorem in_figs (c : Nat) : decide (c ∈ ("0123456789" : Str).cps.toList) = isDg c := by
  rw [show ("0123456789" : Str).cps.toList = _ from cs_figs]
  refine decide_eq_decide.mpr ⟨fun h => ?_, fun h => ?_⟩
  · simp only [List.mem_cons, List.not_mem_nil, or_false] at h
    omega
  · simp only [List.mem_cons, List.not_mem_nil, or_false]
    omega
theorem all_idd (l : List Nat) : (l.map isDg).all id = l.all isDg := by
  rw [List.all_map]; rfl
end HP
namespace HP
open PySem PySem.Spec PyProof.Rows L2
/-! ### what is written is read as the same -/
def dg (m : Nat) : List Nat := (Nat.toDigits 10 m).map Char.toNat
theorem dg_val (m : Nat) : dval (dg m) = m := PySem.W.KIN.val_back m
theorem dg_dig (m : Nat) : PySem.NumText.AllDigits (dg m) := fun c hc => by
  obtain ⟨ch, hch, e⟩ := List.mem_map.mp hc
  have h := Nat.isDigit_of_mem_toDigits (by decide) (by decide) hch
  rw [← e]
  exact PyProof.Rows.digit_range h
theorem dg_small {m : Nat} (h : m < 10) : dg m = [48 + m] := by
  have : ∀ d : Nat, d < 10 → (Nat.toDigits 10 d).map Char.toNat = [48 + d] := by decide
  exact this m h
theorem dg_big {m : Nat} (h : ¬ m < 10) : dg m = dg (m / 10) ++ dg (m % 10) := by
  have hm : m % 10 < 10 := Nat.mod_lt m (by decide)
  have t : Nat.toDigits 10 (m / 10) ++ Nat.toDigits 10 (m % 10) = Nat.toDigits 10 (10 * (m / 10) + m % 10) := Nat.toDigits_append_toDigits (by decide) (by omega) hm
  rw [Nat.div_add_mod] at t
  unfold dg
  rw [← t, List.map_append]
theorem dg_ne (m : Nat) : dg m ≠ [] := fun z => by
  have h := PyProof.Rows.tDigits_len_ge 10 m
  have := congrArg List.length z
  unfold dg at this
  rw [List.length_map] at this
  simp at this
theorem dg_head : ∀ {m : Nat}, 0 < m → (dg m)[0]? ≠ some 48 := by
  intro m
  induction m using Nat.strongRecOn with
  | _ m ih =>
    intro h
    by_cases hm : m < 10
    · rw [dg_small hm]
      intro z
      have : 48 + m = 48 := by simpa using z
      omega
    · rw [dg_big hm, List.getElem?_append_left (List.length_pos_iff.mpr (dg_ne _))]
      exact ih (m / 10) (by omega) (by omega)
theorem dg_len {m : Nat} (h : m < 10 ^ 60) : 1 ≤ (dg m).length ∧ (dg m).length ≤ 60 := by
  unfold dg
  rw [List.length_map]
  exact ⟨PyProof.Rows.tDigits_len_ge 10 m, PyProof.Rows.digits10_le (by decide) h⟩
theorem dg_figs {m : Nat} (h : m < 10 ^ 60) : figs (dg m) = true := by
  rw [figs_all (dg_len h) (by
    by_cases z : m = 0
    · subst z; exact .inr rfl
    · exact .inl (dg_head (by omega)))]
  exact List.all_eq_true.mpr fun c hc => decide_eq_true (dg_dig m c hc)
theorem dg_no47 (m : Nat) : 47 ∉ dg m := fun h => absurd (dg_dig m 47 h) (by decide)
theorem dg_no45 (m : Nat) : (dg m)[0]? ≠ some 45 := fun h => absurd (dg_dig m 45 (List.mem_of_getElem? h)) (by decide)
theorem cs_nat (m : Nat) : cs ((toString ((m : Nat) : Int) : String) : Str) = dg m := PySem.W.KIN.signs_num m
theorem cs_neg {m : Nat} (h : 0 < m) : cs ((toString (-((m : Nat) : Int)) : String) : Str) = 45 :: dg m := by
  obtain ⟨k, rfl⟩ : ∃ k, m = k + 1 := ⟨m - 1, by omega⟩
  have e : (toString (-((k + 1 : Nat) : Int)) : String) = "-" ++ (toString ((k + 1 : Nat) : Int) : String) := rfl
  rw [e]
  show (Str.ofString ("-" ++ (toString ((k + 1 : Nat) : Int) : String))).cps.toList = _
  rw [PyProof.Rows.signs_ofString, String.toList_append, List.map_append, ← PyProof.Rows.signs_ofString, ← PyProof.Rows.signs_ofString]
  exact congrArg (45 :: ·) (cs_nat (k + 1))
/-- the codes of a whole number -/
theorem cs_int (t : Int) : cs ((toString t : String) : Str) = if t < 0 then 45 :: dg t.natAbs else dg t.natAbs := by
  by_cases h : t < 0
  · rw [if_pos h]
    obtain ⟨m, rfl⟩ : ∃ m : Nat, t = -(m : Int) := ⟨t.natAbs, by omega⟩
    rw [cs_neg (by omega)]
    have : (-(m : Int)).natAbs = m := by omega
    rw [this]
  · rw [if_neg h]
    obtain ⟨m, rfl⟩ := Int.eq_ofNat_of_zero_le (show 0 ≤ t by omega)
    exact cs_nat m
theorem cut_app {l : List Nat} (h : 47 ∉ l) (r : List Nat) : cutA (l ++ 47 :: r) = l ∧ cutB (l ++ 47 :: r) = 47 :: r := by
  induction l with
  | nil => exact cut_47 r
  | cons c l ih =>
    have hc : c ≠ 47 := fun z => h (by rw [z]; exact List.mem_cons_self)
    obtain ⟨h1, h2⟩ := ih fun z => h (List.mem_cons_of_mem _ z)
    have := cut_ne hc (l ++ 47 :: r)
    exact ⟨this.1.trans (congrArg (c :: ·) h1), this.2.trans h2⟩
theorem cs_numS (t b : Int) (hb : 0 < b) : cs (numS t b) = (if t < 0 then 45 :: dg t.natAbs else dg t.natAbs) ++ (if b = 1 then [] else 47 :: dg b.natAbs) := by
  unfold numS
  by_cases h : b = 1
  · rw [if_pos h, if_pos h, List.append_nil, cs_int]
  · rw [if_neg h, if_neg h, cs_app, cs_app, cs_int, cs_int, if_neg (show ¬ b < 0 by omega), show cs "/" = [47] by decide +kernel, List.append_assoc]; rfl
theorem sgd_dg (t : Int) : sgd (decide (t < 0)) (dg t.natAbs) = t := by
  unfold sgd
  rw [dg_val]
  by_cases h : t < 0
  · rw [decide_eq_true h, if_pos rfl]; omega
  · rw [decide_eq_false h, if_neg Bool.false_ne_true]; omega
theorem numD_numS {n : Bool} {t b : Int} (hb : 0 < b) (h1 : t.natAbs < 10 ^ 60) (h2 : b.natAbs < 10 ^ 60) (e : n = decide (t < 0)) :
    numD n (cutA (dg t.natAbs ++ (if b = 1 then [] else 47 :: dg b.natAbs))) (cutB (dg t.natAbs ++ (if b = 1 then [] else 47 :: dg b.natAbs))) = some (t, b) := by
  subst e
  by_cases h : b = 1
  · rw [if_pos h, List.append_nil, (cut_none (dg_no47 _)).1, (cut_none (dg_no47 _)).2]
    unfold numD
    rw [dg_figs h1, if_pos rfl, sgd_dg, h]
  · rw [if_neg h, (cut_app (dg_no47 _) _).1, (cut_app (dg_no47 _) _).2]
    unfold numD
    rw [dg_figs h1, if_pos rfl, sgd_dg]
    show (if (figs (dg b.natAbs) && !decide (dg b.natAbs = [48])) = true then some (t, (dval (dg b.natAbs) : Int)) else none) = _
    have hn : dg b.natAbs ≠ [48] := fun z => by
      have := dg_val b.natAbs
      rw [z, dval_zero] at this
      omega
    rw [dg_figs h2, decide_eq_false hn, dg_val]
    show (if true = true then some (t, (b.natAbs : Int)) else none) = _
    rw [if_pos rfl, show ((b.natAbs : Nat) : Int) = b by omega]
theorem numOf_numS {t b : Int} (hb : 0 < b) (h1 : t.natAbs < 10 ^ 60) (h2 : b.natAbs < 10 ^ 60) : numOf (cs (numS t b)) = some (t, b) := by
  rw [cs_numS t b hb]
  unfold numOf
  by_cases h : t < 0
  · rw [if_pos h, List.cons_append, if_pos (by rfl), List.tail_cons]
    exact numD_numS hb h1 h2 (decide_eq_true h).symm
  · rw [if_neg h, if_neg (by
      rw [List.getElem?_append_left (List.length_pos_iff.mpr (dg_ne _))]
      exact dg_no45 _)]
    exact numD_numS hb h1 h2 (decide_eq_false h).symm
/-- the law's own way to write -/
theorem numS_law (t b : Int) (hb : 0 < b) : cs (numS t b) = (if t < 0 then [45] else []) ++ cs ((toString (if t < 0 then -t else t) : String) : Str) ++ (if 1 < b then 47 :: cs ((toString b : String) : Str) else []) := by
  rw [cs_numS t b hb, cs_int b, if_neg (show ¬ b < 0 by omega)]
  have e : (if 1 < b then 47 :: dg b.natAbs else []) = if b = 1 then [] else 47 :: dg b.natAbs := by
    by_cases h : b = 1
    · rw [if_pos h, if_neg (by omega)]
    · rw [if_neg h, if_pos (by omega)]
  rw [e]
  congr 1
  by_cases h : t < 0
  · rw [if_pos h, if_pos h, if_pos h, cs_int, if_neg (by omega), Int.natAbs_neg]; rfl
  · rw [if_neg h, if_neg h, if_neg h, cs_int, if_neg h]; rfl
theorem strOk_numS (t b : Int) : PyData.strOk (numS t b) = true := by
  unfold numS
  split
  · exact sok_int t
  · exact sok_app (sok_app (sok_int t) (by decide +kernel)) (sok_int b)
end HP
namespace HP
open PySem PySem.Spec PyProof.Rows L2
def spFar4 : Sp := fun vs H Q _ => ∃ bx n, vs = [.ref bx] ∧ Box H bx n ∧ n < 900000 ∧ ∀ x H', x.natAbs < 10 ^ 60 → Go bx H H' → Box H' bx (n + 30) → Q (.int x) H'
def spDrawn4 : Sp := fun vs H Q _ => ∃ bx n, vs = [.ref bx] ∧ Box H bx n ∧ n < 800000 ∧ ∀ v t b H', Num H' v t b → t.natAbs < 10 ^ 60 → b.natAbs < 10 ^ 60 → Go bx H H' → Box H' bx (n + 150) → Q v H'
def spText4 (m : Nat) (k : Int) : Sp := fun vs H Q _ => ∃ bx n, vs = [.ref bx] ∧ Box H bx n ∧ n < 800000 - 2 * k ∧ ∀ (s : Str) H', s.length ≤ m → PyData.strOk s = true → Go bx H H' → Box H' bx (n + k) → Q (.str s) H'
def spRight4 (K : PySem.W.Frag) : Sp := fun vs H Q _ => ∃ v bx, vs = [v] ∧ Th K bx H v ∧ ∀ H', Same H H' → Q (.bl true) H'
theorem bt60 {x : Int} (h : x.natAbs < 10 ^ 60) : Bt 200 x := ⟨by
  have e : (10 : Nat) ^ 60 < 2 ^ 200 := by decide +kernel
  omega⟩
theorem strip_ex (x y : Str) (h : PyData.strOk x = true) : ∃ t : Str, Txt.lstripChars x y = t ∧ t.length ≤ x.length ∧ PyData.strOk t = true := by
  refine ⟨_, rfl, ?_, ?_⟩
  · show (Txt.stripBy _ _ _ _).length ≤ _
    rw [PyProof.Rows.stripBy_eq]
    exact le_strSub _ _ _
  · show PyData.strOk (Txt.stripBy _ _ _ _) = true
    rw [PyProof.Rows.stripBy_eq, sok_iff]
    rw [sok_iff] at h
    intro c hc
    rw [StrLaws.strSub_toList] at hc
    exact h c (List.mem_of_mem_drop (List.mem_of_mem_take hc))
theorem q_strip {x y : Str} {R : Str → Prop} (hl : x.length ≤ 100000) (h : PyData.strOk x = true) (q : ∀ t : Str, t.length ≤ x.length → PyData.strOk t = true → R t) : ∃ a b, V.str x = .str a ∧ [V.str y] = [.str b] ∧ a.length ≤ sizeLine ∧ R (Txt.lstripChars a b) := by
  obtain ⟨t, e, h1, h2⟩ := strip_ex x y h
  exact ⟨x, y, rfl, rfl, by rw [sizeLine_eq]; omega, by rw [e]; exact q t h1 h2⟩
theorem isb (b : Bool) : 0 ≤ (if b = true then (1 : Int) else 0) ∧ (if b = true then (1 : Int) else 0) < 2 := by
  cases b <;> decide
end HP
namespace HP
open PySem PySem.Spec PyProof.Rows L2
section
variable {σ : L2.St} {H : Hp} {Q : VK} {te : TE}
theorem q_js {t : TE} {ts : List TE} {acc : Str} {R : Str → Hp → Prop} (q : t σ H fun x H1 => ∃ y : Str, x = .str y ∧ (acc ++ y).length ≤ sizeLine ∧ tJs ts (acc ++ y) σ H1 R) : tJs (t :: ts) acc σ H R := q
theorem q_jn {acc : Str} {R : Str → Hp → Prop} (q : R acc H) : tJs [] acc σ H R := q
theorem q_fmt (q : te σ H fun x H1 => (∃ y : Str, x = .str y ∧ y.length ≤ sizeLine ∧ Q (.str y) H1) ∨ ∃ i : Int, x = .int i ∧ i.natAbs.log2 < 1920 ∧ Q (.str (toString i)) H1) : tFmt te σ H Q := q
theorem q_fmtI {i : Int} {R : Str → Prop} {A : Prop} (h : Bt 1900 i) (q : R ((toString i : String) : Str)) : A ∨ ∃ j : Int, V.int i = .int j ∧ j.natAbs.log2 < 1920 ∧ R ((toString j : String) : Str) := .inr ⟨i, rfl, by have := h.log; omega, q⟩
theorem emp_app (x : Str) : Str.empty ++ x = x := str_ext (by rw [cs_app]; rfl)
theorem find_dig {c : Nat} (h : 48 ≤ c ∧ c ≤ 57) : Txt.find "0123456789" ⟨#[c]⟩ = (c : Int) - 48 := by
  have : ∀ d : Nat, d < 10 → Txt.find "0123456789" ⟨#[48 + d]⟩ = (d : Int) := by decide +kernel
  have e := this (c - 48) (by omega)
  rw [show 48 + (c - 48) = c by omega] at e
  rw [e]; omega
theorem dval_snoc (l : List Nat) (c : Nat) : dval (l ++ [c]) = dval l * 10 + (c - 48) := by
  show (l ++ [c]).foldl (fun acc c => acc * 10 + (c - 48)) 0 = _
  rw [List.foldl_append]; rfl
end
def numV1 (s : Str) : V := if figs (cs s) = true then .int (dval (cs s)) else .non
end HP
namespace HP
open PySem PySem.Spec PyProof.Rows L2
theorem rmp_len (s : Str) : (Txt.removeprefix s "-").length ≤ s.length := by
  by_cases h : (cs s)[0]? = some 45
  · obtain ⟨d, e⟩ : ∃ d, cs s = 45 :: d := by
      cases hs : cs s with
      | nil => rw [hs] at h; cases h
      | cons c l => rw [hs] at h; exact ⟨l, by rw [show c = 45 by simpa using h]⟩
    have h1 := cs_len (Txt.removeprefix s "-")
    have h2 := cs_len s
    rw [rmp_yes e] at h1
    rw [e, List.length_cons] at h2
    omega
  · rw [rmp_no h]; exact Nat.le_refl _
theorem top_of {s p : Str} (ha : cs p = cutA (cs s)) : ∃ neg d, cs (Txt.removeprefix p "-") = d ∧ (figs d = true → PySem.intText? p = some (sgd neg d)) ∧ numOf (cs s) = numD neg d (cutB (cs s)) ∧ p.length ≤ d.length + 1 := by
  by_cases h : (cs s)[0]? = some 45
  · obtain ⟨h1, h2⟩ := cutA_neg h
    rw [h1] at ha
    refine ⟨true, cutA (cs s).tail, rmp_yes ha, fun hf => text_neg ha hf, ?_, ?_⟩
    · unfold numOf; rw [if_pos h, h2]
    · rw [← cs_len, ha, List.length_cons]; exact Nat.le_refl _
  · have hp : (cs p)[0]? ≠ some 45 := by rw [ha]; exact cutA_pos h
    refine ⟨false, cs p, by rw [rmp_no hp], fun hf => text_int hf, ?_, ?_⟩
    · unfold numOf; rw [if_neg h, ha]
    · rw [cs_len]; exact Nat.le_succ _
theorem low_refl (t b : Int) : Low t b t b := ⟨rfl, Nat.le_refl _, Nat.le_refl _⟩
theorem numD_bad {n : Bool} {d r : List Nat} (h : figs d = false) : numD n d r = none := by
  unfold numD; rw [if_neg (by rw [h]; exact Bool.false_ne_true)]
theorem numD_one {n : Bool} {d : List Nat} (h : figs d = true) : numD n d [] = some (sgd n d, 1) := by
  unfold numD; rw [if_pos h]
theorem numD_no {n : Bool} {d b : List Nat} {c : Nat} (k : figs b = false ∨ b = [48]) : numD n d (c :: b) = none := by
  unfold numD
  split
  · show (if (figs b && !decide (b = [48])) = true then some (sgd n d, (dval b : Int)) else none) = none
    rcases k with k | k
    · rw [k]; rfl
    · rw [decide_eq_true k, Bool.not_true, Bool.and_false]; rfl
  · rfl
theorem numD_two {n : Bool} {d b : List Nat} {c : Nat} (h : figs d = true) (k : figs b = true) (l : b ≠ [48]) : numD n d (c :: b) = some (sgd n d, (dval b : Int)) := by
  unfold numD
  rw [if_pos h]
  show (if (figs b && !decide (b = [48])) = true then some (sgd n d, (dval b : Int)) else none) = _
  rw [k, decide_eq_false l]; rfl
end HP
namespace HP
open PySem PySem.Spec PyProof.Rows L2
section
variable {K : PySem.W.Frag} {σ : L2.St} {H : Hp} {Q : VK}
theorem q_bm {T : String} {r : V → List V → Hp → VK → Prop} {to : TE} {t : TA} (q : to σ H fun x H1 => tyV K T x H1 ∧ t σ H1 fun xs H2 => r x xs H2 Q) : tBM K T r to t σ H Q := q
theorem q_tyL {a : Addr} {xs : List V} {A : Prop} (h : H a = some (.lst xs)) (q : A) : tyV K "list" (.ref a) H ∧ A := ⟨.inl ⟨rfl, _, SqL.of h⟩, q⟩
theorem q_apd {a : Addr} {xs : List V} {y : V} (h : H a = some (.lst xs)) (hl : xs.length < 1000000) (q : Q .non (upd H a (.lst (xs ++ [y])))) : rAppend (.ref a) [y] H Q := ⟨a, xs, y, rfl, rfl, h, by rw [sizeLine_eq]; omega, q⟩
theorem ixN_last (n : Nat) : ixN (n + 1) (-1) = some n := by
  unfold ixN
  rw [if_neg (by decide), if_pos (by omega)]
  congr 1; omega
theorem q_ixLast {a : Addr} {xs : List V} {x : V} (h : H a = some (.lst (xs ++ [x]))) (q : Q x H) : rIxL K (.ref a) (.int (-1)) H Q := by
  refine ⟨a, _, -1, x, rfl, rfl, SqL.of h, ?_, q⟩
  unfold atI
  rw [List.length_append, show xs.length + [x].length = xs.length + 1 from rfl, ixN_last]
  simp
theorem q_setLast {a : Addr} {xs : List V} {x v : V} {R : Hp → Prop} (h : H a = some (.lst (xs ++ [x]))) (q : R (upd H a (.lst (xs ++ [v])))) : rSetL (.ref a) (.int (-1)) v H R := by
  refine ⟨a, _, -1, xs.length, rfl, rfl, h, by rw [List.length_append]; exact ixN_last _, ?_⟩
  rw [List.set_append_right _ _ (Nat.le_refl _), Nat.sub_self]
  exact q
end
theorem cs_cut1 (s : Str) : cs (cutS s none (some 1)) = (cs s).take 1 := by
  unfold cutS
  show (((s.cps.toList.drop (HT.sIx s.length 0 none)).take (HT.sIx s.length s.length (some 1) - HT.sIx s.length 0 none)).toArray).toList = _
  rw [HT.sIx_none, show (some (1 : Int)) = some ((1 : Nat) : Int) from rfl, HT.sIx_nat, List.drop_zero, Nat.sub_zero]
  show (cs s).take (min 1 s.length) = _
  cases h : cs s with
  | nil => simp
  | cons c l =>
    have := cs_len s
    rw [h, List.length_cons] at this
    rw [show min 1 s.length = 1 by omega]
theorem cs_cutF (s : Str) (b : Bool) : cs (cutS s (some (if b = true then 1 else 0)) none) = if b = true then (cs s).tail else cs s := by
  unfold cutS
  show (((s.cps.toList.drop (HT.sIx s.length 0 (some (if b = true then 1 else 0)))).take (HT.sIx s.length s.length none - HT.sIx s.length 0 (some (if b = true then 1 else 0)))).toArray).toList = _
  cases b with
  | false =>
    show ((cs s).drop (HT.sIx s.length 0 (some ((0 : Nat) : Int)))).take (s.length - HT.sIx s.length 0 (some ((0 : Nat) : Int))) = cs s
    rw [HT.sIx_nat, Nat.zero_min, List.drop_zero, Nat.sub_zero, ← cs_len, List.take_length]
  | true =>
    show ((cs s).drop (HT.sIx s.length 0 (some ((1 : Nat) : Int)))).take (s.length - HT.sIx s.length 0 (some ((1 : Nat) : Int))) = (cs s).tail
    rw [HT.sIx_nat]
    cases h : cs s with
    | nil => simp
    | cons c l =>
      have := cs_len s
      rw [h, List.length_cons] at this
      rw [show min 1 s.length = 1 by omega]
      show l.take (s.length - 1) = l
      rw [List.take_of_length_le]; omega
theorem head_dec (l : List Nat) : decide (l.take 1 = [45]) = decide (l[0]? = some 45) := by
  cases l with
  | nil => rfl
  | cons c l => exact decide_eq_decide.mpr ⟨fun h => by simpa using h, fun h => by simpa using h⟩
/-- the pieces, as texts -/
structure Pcs (l : List Nat) (ps : List Str) (i : Nat) : Prop where
  e : ps.map cs = l.foldl stp [[]]
  n : ps.length ≤ i + 1
  l : ∀ p ∈ ps, p.length ≤ i
theorem Pcs.nil : Pcs [] [""] 0 := ⟨by decide +kernel, Nat.le_refl _, fun p hp => by rw [List.mem_singleton.mp hp]; exact Nat.le_refl _⟩
theorem stp_ne (l : List Nat) : l.foldl stp [[]] ≠ [] := by
  rw [fold_spl0]; exact List.cons_ne_nil _ _
theorem Pcs.last {l : List Nat} {ps : List Str} {i : Nat} (h : Pcs l ps i) : ∃ pre x, ps = pre ++ [x] := by
  cases hp : ps.reverse with
  | nil =>
    exfalso
    have h0 : ps = [] := List.reverse_eq_nil_iff.mp hp
    have he := h.e
    rw [h0] at he
    exact stp_ne l he.symm
  | cons x r =>
    refine ⟨r.reverse, x, ?_⟩
    have := congrArg List.reverse hp
    rw [List.reverse_reverse, List.reverse_cons] at this
    exact this
theorem Pcs.cut {l : List Nat} {ps : List Str} {i : Nat} (h : Pcs l ps i) : Pcs (l ++ [47]) (ps ++ [("" : Str)]) (i + 1) := by
  refine ⟨?_, ?_, ?_⟩
  · rw [List.foldl_append, List.map_append, h.e]
    rfl
  · rw [List.length_append]; have := h.n; simp; omega
  · intro p hp
    rcases List.mem_append.mp hp with k | k
    · exact Nat.le_succ_of_le (h.l p k)
    · rw [List.mem_singleton.mp k]; exact Nat.zero_le _
theorem Pcs.add {l : List Nat} {pre : List Str} {x : Str} {c i : Nat} (h : Pcs l (pre ++ [x]) i) (hc : c ≠ 47) : Pcs (l ++ [c]) (pre ++ [x ++ ⟨#[c]⟩]) (i + 1) := by
  have he := h.e
  rw [List.map_append] at he
  refine ⟨?_, ?_, ?_⟩
  · rw [List.foldl_append, ← he]
    show _ = stp (pre.map cs ++ [cs x]) c
    rw [stp_snoc, if_neg hc, List.map_append]
    show pre.map cs ++ [cs (x ++ ⟨#[c]⟩)] = _
    rw [cs_app]
  · have := h.n
    rw [List.length_append] at this ⊢
    exact Nat.le_succ_of_le this
  · intro p hp
    rcases List.mem_append.mp hp with k | k
    · exact Nat.le_succ_of_le (h.l p (List.mem_append.mpr (.inl k)))
    · rw [List.mem_singleton.mp k, slen_app]
      have := h.l x (List.mem_append.mpr (.inr List.mem_cons_self))
      have : (⟨#[c]⟩ : Str).length = 1 := rfl
      omega
end HP
namespace HP
open PySem PySem.Spec PyProof.Rows L2
theorem due2_none {n : Bool} {p : List Nat} {r : List (List Nat)} (h : figs p = false ∨ r.any (fun x => !figs x) = true ∨ 1 < r.length) : due2 n p r = none := by
  unfold due2; rw [if_pos h]
theorem due2_one {n : Bool} {p : List Nat} (h : figs p = true) : due2 n p [] = some (sgd n p, 1) := by
  unfold due2; rw [if_neg (by simp [h])]
theorem due2_zero {n : Bool} {p b : List Nat} (h : figs p = true) (k : figs b = true) (z : dval b = 0) : due2 n p [b] = none := by
  unfold due2
  rw [if_neg (by simp [h, k])]
  show (if dval b = 0 then none else some (sgd n p, (dval b : Int))) = none
  rw [if_pos z]
theorem due2_two {n : Bool} {p b : List Nat} (h : figs p = true) (k : figs b = true) (z : dval b ≠ 0) : due2 n p [b] = some (sgd n p, (dval b : Int)) := by
  unfold due2
  rw [if_neg (by simp [h, k])]
  show (if dval b = 0 then none else some (sgd n p, (dval b : Int))) = _
  rw [if_neg z]
theorem flat_numV1 (ps : List Str) : (ps.map numV1).all flatV = true := by
  rw [List.all_map, List.all_eq_true]
  intro s _
  show flatV (numV1 s) = true
  unfold numV1
  split <;> rfl
theorem in_numV1 (ps : List Str) : inV .non (ps.map numV1) = ps.any fun s => !figs (cs s) := by
  unfold inV
  rw [List.any_map]
  congr 1
  funext s
  show eqV (numV1 s) .non = _
  unfold numV1
  by_cases h : figs (cs s) = true
  · rw [if_pos h, h]; rfl
  · rw [if_neg h, show figs (cs s) = false by simpa using h]; rfl
theorem numV1_int {s : Str} (h : figs (cs s) = true) : numV1 s = .int (dval (cs s)) := by
  unfold numV1; rw [if_pos h]
end HP
namespace HP
open PySem PySem.Spec PyProof.Rows L2
theorem q_notNN {H : Hp} {Q : VK} (q : Q (.bl false) H) : rNotN .non .non H Q := ⟨rfl, by rw [decide_eq_true rfl]; exact q⟩
theorem q_notNy {H : Hp} {Q : VK} {v : V} (h : v ≠ .non) (q : Q (.bl true) H) : rNotN v .non H Q := ⟨rfl, by rw [decide_eq_false h]; exact q⟩
theorem q_isNno {H : Hp} {Q : VK} {v : V} (h : v ≠ .non) (q : Q (.bl false) H) : rIsN v .non H Q := ⟨rfl, by rw [decide_eq_false h]; exact q⟩
theorem Num.nn {H : Hp} {v : V} {t b : Int} (h : Num H v t b) : v ≠ .non := by
  rcases h with ⟨rfl, _⟩ | ⟨a, rfl, _⟩ <;> exact fun z => nomatch z
theorem low_same {t b t1 b1 t2 b2 : Int} {H1 H2 : Hp} {u v : V} (hb : b ≠ 0) (N1 : Num H1 u t1 b1) (N2 : Num H2 v t2 b2) (L1 : Low t b t1 b1) (L2 : Low t b t2 b2) : t1 = t2 ∧ b1 = b2 := by
  refine N1.one N2 ?_
  have e1 := L1.eq
  have e2 := L2.eq
  have h : b * (t1 * b2) = b * (t2 * b1) := by
    rw [show b * (t1 * b2) = (t1 * b) * b2 by rw [Int.mul_comm t1 b, Int.mul_assoc], e1, show b * (t2 * b1) = (t2 * b) * b1 by rw [Int.mul_comm t2 b, Int.mul_assoc], e2, Int.mul_assoc, Int.mul_assoc, Int.mul_comm b1 b2]
  exact Int.eq_of_mul_eq_mul_left hb h
theorem numD_pos {n : Bool} {d r : List Nat} {t b : Int} (h : numD n d r = some (t, b)) : b ≠ 0 := by
  unfold numD at h
  split at h
  · split at h
    · cases h; decide
    · split at h
      · rename_i hk
        cases h
        simp only [Bool.and_eq_true, Bool.not_eq_true', decide_eq_false_iff_not] at hk
        have := dval_pos hk.1 hk.2
        omega
      · cases h
  · cases h
theorem numT_pos {v : V} {t b : Int} (h : numT v = some (t, b)) : b ≠ 0 := by
  cases v with
  | str s =>
    have h : numOf (cs s) = some (t, b) := h
    unfold numOf at h
    split at h
    · exact numD_pos h
    · exact numD_pos h
  | _ => cases h
end HP
namespace HP
open PySem PySem.Spec PyProof.Rows L2
section
variable {K : PySem.W.Frag} {σ : L2.St} {H : Hp} {Q : VK}
theorem q_ixBs {p : Addr} {a b : Str} {c : Bool} (h : H p = some (.lst [.str a, .str b])) (q : Q (.str (if c = true then b else a)) H) : rIxL K (.ref p) (.int (if c = true then 1 else 0)) H Q := by
  cases c with
  | true => exact q_ixL (j := 1) (SqL.of h) rfl q
  | false => exact q_ixL (j := 0) (SqL.of h) rfl q
theorem q_ne00 {a b : Addr} (h1 : H a = some (.lst [])) (h2 : H b = some (.lst [])) (q : Q (.bl false) H) : rNeD K (.ref a) (.ref b) H Q :=
  ⟨_, _, .lst (SqL.of h1) .nil, .lst (SqL.of h2) .nil, by decide +kernel, by decide +kernel, q⟩
theorem q_mulS {z : Str} {n : Int} (h : MulOk z n) {R : Str → Prop} (q : R (Txt.mul z n)) : ∃ z' n', V.str z = .str z' ∧ V.int n = .int n' ∧ MulOk z' n' ∧ R (Txt.mul z' n') := ⟨z, n, rfl, rfl, h, q⟩
end
theorem numS_txt (t b : Int) (hb : 0 < b) : (((if decide (t < 0) = true then ("-" : Str) else "") ++ ((toString (if t < 0 then -t else t) : String) : Str)) ++ (if decide (1 < b) = true then ("/" : Str) ++ ((toString b : String) : Str) else "")) = numS t b := by
  refine str_ext ?_
  rw [numS_law t b hb, cs_app, cs_app]
  congr 1
  · congr 1
    by_cases h : t < 0
    · rw [if_pos h, decide_eq_true h, if_pos rfl]; decide +kernel
    · rw [if_neg h, decide_eq_false h, if_neg Bool.false_ne_true]; decide +kernel
  · by_cases h : 1 < b
    · rw [if_pos h, decide_eq_true h, if_pos rfl, cs_app, show cs "/" = [47] by decide +kernel]; rfl
    · rw [if_neg h, decide_eq_false h, if_neg Bool.false_ne_true]; decide +kernel
theorem len60 {t : Int} (h : t.natAbs < 10 ^ 60) : ((toString t : String) : Str).length ≤ 61 := by
  rw [← cs_len, cs_int]
  have := (dg_len h).2
  split
  · rw [List.length_cons]; omega
  · omega
theorem numS_len {t b : Int} (h1 : t.natAbs < 10 ^ 60) (h2 : b.natAbs < 10 ^ 60) : (numS t b).length ≤ 200 := by
  have l1 := len60 h1
  have l2 := len60 h2
  unfold numS
  split
  · omega
  · rw [slen_app, slen_app, show ("/" : Str).length = 1 from rfl]; omega
theorem sev_cs : cs (Txt.mul "7" 5000) = List.replicate 5000 55 := PyProof.Rows.mul_one_list 55 5000
theorem sev_len : (Txt.mul "7" 5000).length = 5000 := by rw [← cs_len, sev_cs, List.length_replicate]
theorem sev_ok : PyData.strOk (Txt.mul "7" 5000) = true := by
  rw [sok_iff]
  intro c hc
  rw [show (Txt.mul "7" 5000).cps.toList = _ from sev_cs] at hc
  rw [List.eq_of_mem_replicate hc]; decide
theorem sev_mul : MulOk "7" 5000 := ⟨by decide, fun _ _ => by decide, fun _ _ => by decide +kernel⟩
theorem rep_no47 : 47 ∉ List.replicate 5000 55 := fun h => absurd (List.eq_of_mem_replicate h) (by decide)
theorem rep_figs : figs (List.replicate 5000 55) = false := figs_short (by rw [List.length_replicate]; omega)
theorem rep_head : (List.replicate 5000 55)[0]? = some 55 := by
  rw [List.getElem?_replicate]; rfl
theorem long_none : ∀ x ∈ [("" : Str), "-", "1/"], numOf (cs (x ++ Txt.mul "7" 5000)) = none := by
  have c := cut_none rep_no47
  intro x hx
  rw [cs_app, sev_cs]
  simp only [List.mem_cons, List.not_mem_nil, or_false] at hx
  unfold numOf
  rcases hx with rfl | rfl | rfl
  · rw [show cs "" = [] by decide +kernel, List.nil_append, if_neg (by rw [rep_head]; decide), c.1]
    exact numD_bad rep_figs
  · rw [show cs "-" = [45] by decide +kernel, if_pos (by rfl)]
    show numD true (cutA (List.replicate 5000 55)) _ = none
    rw [c.1]
    exact numD_bad rep_figs
  · rw [show cs "1/" = [49] ++ [47] by decide +kernel, List.append_assoc, if_neg (by intro z; cases z)]
    have h := cut_app (l := [49]) (by decide) (List.replicate 5000 55)
    show numD false (cutA ([49] ++ 47 :: List.replicate 5000 55)) (cutB ([49] ++ 47 :: List.replicate 5000 55)) = none
    rw [h.1, h.2]
    exact numD_no (.inl rep_figs)
theorem one_over {f t b : Int} (hf : 0 < f) (L : Low (1 * 1) (1 * f) t b) {H : Hp} {v : V} (N : Num H v t b) : t = 1 ∧ b = f := by
  refine low_one N.pos hf N.cop ?_ ?_
  · unfold HP.cop; exact Nat.gcd_one_left _
  · have := L.eq
    rw [Int.one_mul, Int.one_mul, Int.one_mul] at this
    rw [this, Int.one_mul]
theorem one_txt (f : Int) (h : f ≠ 1) : numS 1 f = ("1/" : Str) ++ ((toString f : String) : Str) := by
  unfold numS
  rw [if_neg h]
  refine str_ext ?_
  rw [cs_app, cs_app, cs_app]
  have e : cs ((toString (1 : Int) : String) : Str) ++ cs "/" = cs "1/" := by decide +kernel
  rw [e]
theorem bt59 {d : Int} (h0 : 0 ≤ d) (h1 : d < 10 ^ Int.toNat 9) : Bt 200 ((10 : Int) ^ Int.toNat 59 + d) ∧ 1 < (10 : Int) ^ Int.toNat 59 + d := by
  have e1 : (10 : Int) ^ Int.toNat 59 = 100000000000000000000000000000000000000000000000000000000000 := by decide +kernel
  have e2 : (10 : Int) ^ Int.toNat 9 = 1000000000 := by decide +kernel
  rw [e1]
  rw [e2] at h1
  refine ⟨⟨?_⟩, by omega⟩
  rw [show (2 : Nat) ^ 200 = 1606938044258990275541962092341162602522202993782792835301376 by decide +kernel]
  omega
end HP
namespace HP
open PySem PySem.Spec PyProof.Rows L2
/-! ### lists of numbers: sums, order -/
def spAdd5 : Sp := fun vs H Q _ => ∃ x y t b s d, vs = [x, y] ∧ Num H x t b ∧ Num H y s d ∧ Bt 3000 t ∧ Bt 3000 b ∧ Bt 3000 s ∧ Bt 3000 d ∧ ∀ v H' t' b', Same H H' → Num H' v t' b' → Low (t * d + s * b) (b * d) t' b' → Q v H'
/-- numbers in a list, as rationals -/
abbrev Itq (H : Hp) : List V → List Rat → Prop := Paired fun v q => NQ H v q ∧ BQ 600 q
theorem NQ.same' {H H' : Hp} {v : V} {q : Rat} (h : NQ H v q) (s : Same H H') : NQ H' v q := Num.same h s
theorem Itq.same {H H' : Hp} (s : Same H H') : ∀ {vs : List V} {qs : List Rat}, Itq H vs qs → Itq H' vs qs
  | _, _, .nil => .nil
  | _, _, .cons ⟨h1, h2⟩ t => .cons ⟨h1.same' s, h2⟩ (Itq.same s t)
theorem Itq.go {H H' : Hp} {bx : Addr} {n : Int} (B : Box H bx n) (g : Go bx H H') : ∀ {vs : List V} {qs : List Rat}, Itq H vs qs → Itq H' vs qs
  | _, _, .nil => .nil
  | _, _, .cons ⟨h1, h2⟩ t => .cons ⟨Num.go h1 B g, h2⟩ (Itq.go B g t)
theorem Itq.len {H : Hp} {vs : List V} {qs : List Rat} (h : Itq H vs qs) : vs.length = qs.length := Paired.length h
theorem Itq.get {H : Hp} : ∀ {vs : List V} {qs : List Rat} {i : Nat} {v : V}, Itq H vs qs → vs[i]? = some v → ∃ q, qs[i]? = some q ∧ NQ H v q ∧ BQ 600 q
  | _, _, _, _, .nil, e => by simp at e
  | _, _, 0, v, .cons (a := w) (b := q) h t, e => by
    have e : w = v := by simpa using e
    rw [← e]
    exact ⟨q, rfl, h⟩
  | _, _, i + 1, _, .cons h t, e => by
    obtain ⟨q, h1, h2⟩ := Itq.get (i := i) t (by simpa using e)
    exact ⟨q, by simpa using h1, h2⟩
theorem Itq.snoc {H : Hp} {vs : List V} {qs : List Rat} {v : V} {q : Rat} (h : Itq H vs qs) (N : NQ H v q) (B : BQ 600 q) : Itq H (vs ++ [v]) (qs ++ [q]) := Paired.snoc h ⟨N, B⟩
/-- q times E is whole, and not great -/
def Ib (E : Int) (m : Nat) (q : Rat) : Prop := ∃ N : Int, q * (E : Rat) = (N : Rat) ∧ N.natAbs ≤ m * (2 ^ 600 * E.natAbs)
theorem Ib.of {E : Int} {q : Rat} (h : BQ 600 q) (d : (q.den : Int) ∣ E) : Ib E 1 q := by
  obtain ⟨k, e⟩ := d
  refine ⟨q.num * k, ?_, ?_⟩
  · have h1 := rat_nd q
    have h2 := den_ne q
    rw [e, Rat.intCast_mul, Rat.intCast_mul]
    grind
  · have h1 := h.t.lt
    have h2 : k.natAbs ≤ E.natAbs := by
      rw [e, Int.natAbs_mul]
      have := den_pos' q
      exact Nat.le_mul_of_pos_left _ (by omega)
    rw [Int.natAbs_mul, Nat.one_mul]
    exact Nat.mul_le_mul (Nat.le_of_lt h1) h2
theorem Ib.add {E : Int} {m : Nat} {q r : Rat} (h : Ib E m q) (k : Ib E 1 r) : Ib E (m + 1) (q + r) := by
  obtain ⟨N, h1, h2⟩ := h
  obtain ⟨M, k1, k2⟩ := k
  refine ⟨N + M, ?_, ?_⟩
  · rw [Rat.intCast_add, Rat.add_mul, h1, k1]
  · have := Int.natAbs_add_le N M
    rw [Nat.add_mul]
    omega
theorem Ib.bq {E : Int} {m : Nat} {q : Rat} (h : Ib E m q) (hE : 0 < E) (B : Bt 2300 E) (hm : m ≤ 1000) : BQ 3000 q := by
  obtain ⟨N, h1, h2⟩ := h
  have hd := den_pos' q
  have key : q.num * E = N * (q.den : Int) := by
    have a1 := rat_nd q
    have a2 := den_ne q
    have : ((q.num * E : Int) : Rat) = ((N * (q.den : Int) : Int) : Rat) := by
      rw [Rat.intCast_mul, Rat.intCast_mul]
      grind
    exact_mod_cast this
  have hdvd : q.den ∣ E.natAbs := by
    have hc : Nat.Coprime q.den q.num.natAbs := q.reduced.symm
    refine Nat.Coprime.dvd_of_dvd_mul_left hc ?_
    have := congrArg Int.natAbs key
    rw [Int.natAbs_mul, Int.natAbs_mul, Int.natAbs_natCast] at this
    exact ⟨N.natAbs, by rw [this, Nat.mul_comm]⟩
  have hdE : q.den ≤ E.natAbs := Nat.le_of_dvd (by omega) hdvd
  have hB := B.lt
  have hn : q.num.natAbs ≤ N.natAbs := by
    have := congrArg Int.natAbs key
    rw [Int.natAbs_mul, Int.natAbs_mul, Int.natAbs_natCast] at this
    have h3 : q.num.natAbs * E.natAbs ≤ N.natAbs * E.natAbs := by
      rw [this]; exact Nat.mul_le_mul_left _ hdE
    exact Nat.le_of_mul_le_mul_right h3 (by omega)
  refine ⟨⟨?_⟩, ⟨?_⟩⟩
  · refine Nat.lt_of_le_of_lt hn (Nat.lt_of_le_of_lt h2 ?_)
    have h4 : m * (2 ^ 600 * E.natAbs) ≤ 1000 * (2 ^ 600 * 2 ^ 2300) := Nat.mul_le_mul hm (Nat.mul_le_mul_left _ (Nat.le_of_lt hB))
    have h5 : 1000 * (2 ^ 600 * 2 ^ 2300) < 2 ^ 3000 := by decide +kernel
    omega
  · rw [Int.natAbs_natCast]
    have h6 : (2 : Nat) ^ 2300 < 2 ^ 3000 := by decide +kernel
    omega
theorem ib_fold {E : Int} : ∀ (qs : List Rat) (m : Nat) (a : Rat), Ib E m a → (∀ q ∈ qs, BQ 600 q ∧ (q.den : Int) ∣ E) → Ib E (m + qs.length) (qs.foldl (· + ·) a)
  | [], m, a, h, _ => h
  | q :: qs, m, a, h, k => by
    have := ib_fold qs (m + 1) (a + q) (h.add (Ib.of (k q List.mem_cons_self).1 (k q List.mem_cons_self).2)) fun r hr => k r (List.mem_cons_of_mem _ hr)
    rw [List.length_cons, show m + (qs.length + 1) = m + 1 + qs.length by omega]
    exact this
/-- a list whose sums stay small -/
structure Sum (qs : List Rat) (a : Rat) : Prop where
  ex : ∃ E : Int, 0 < E ∧ Bt 2300 E ∧ (∀ q ∈ qs, BQ 600 q ∧ (q.den : Int) ∣ E) ∧ (a.den : Int) ∣ E
  a : BQ 600 a
  n : qs.length ≤ 900
theorem Sum.bq {qs : List Rat} {a : Rat} (h : Sum qs a) (i : Nat) : BQ 3000 ((qs.take i).foldl (· + ·) a) := by
  obtain ⟨E, h1, h2, h3, h4⟩ := h.ex
  have := ib_fold (qs.take i) 1 a (Ib.of h.a h4) fun q hq => h3 q (List.mem_of_mem_take hq)
  refine this.bq h1 h2 ?_
  have := List.length_take_le' i qs
  have := h.n
  omega
theorem fold_succ {qs : List Rat} {i : Nat} {q a : Rat} (h : qs[i]? = some q) : (qs.take (i + 1)).foldl (· + ·) a = (qs.take i).foldl (· + ·) a + q := by
  rw [List.take_add_one, h, List.foldl_append]; rfl
/-! in order -/
abbrev VQ := V × Rat
def leq (p : VQ) (x : VQ) : Bool := decide (x.2 ≤ p.2)
def insr (l : List VQ) (p : VQ) : List VQ := l.takeWhile (leq p) ++ p :: l.dropWhile (leq p)
def srt (l : List VQ) : List VQ := l.foldl insr []
abbrev Srt (l : List VQ) : Prop := l.Pairwise fun x y => x.2 ≤ y.2
theorem tw_mem {α : Type} {f : α → Bool} : ∀ {l : List α} {x : α}, x ∈ l.takeWhile f → f x = true
  | [], _, h => nomatch h
  | y :: l, x, h => by
    rw [List.takeWhile_cons] at h
    by_cases e : f y = true
    · rw [if_pos e] at h
      rcases List.mem_cons.mp h with z | z
      · rw [z]; exact e
      · exact tw_mem z
    · rw [if_neg e] at h; cases h
theorem tw_le {p : VQ} {l : List VQ} : ∀ x ∈ l.takeWhile (leq p), x.2 ≤ p.2 := fun x hx => of_decide_eq_true (show decide (x.2 ≤ p.2) = true from tw_mem (f := leq p) hx)
theorem dw_gt : ∀ {l : List VQ} {p : VQ}, Srt l → ∀ x ∈ l.dropWhile (leq p), p.2 < x.2
  | [], _, _, x, hx => nomatch hx
  | y :: l, p, h, x, hx => by
    rw [List.dropWhile_cons] at hx
    by_cases e : leq p y = true
    · rw [if_pos e] at hx
      exact dw_gt (List.Pairwise.of_cons h) x hx
    · rw [if_neg e] at hx
      have hy : p.2 < y.2 := Rat.not_le.mp (fun z => e (decide_eq_true z))
      rcases List.mem_cons.mp hx with e2 | e2
      · rw [e2]; exact hy
      · exact Rat.not_le.mp fun z => absurd (Rat.le_trans ((List.pairwise_cons.mp h).1 x e2) z) (Rat.not_le.mpr hy)
theorem Srt.ins {l : List VQ} (h : Srt l) (p : VQ) : Srt (insr l p) := by
  unfold insr
  have h' : Srt (l.takeWhile (leq p) ++ l.dropWhile (leq p)) := by rw [List.takeWhile_append_dropWhile]; exact h
  obtain ⟨h1, h2, h3⟩ := List.pairwise_append.mp h'
  refine List.pairwise_append.mpr ⟨h1, List.pairwise_cons.mpr ⟨fun x hx => Rat.le_of_lt (dw_gt h x hx), h2⟩, fun x hx y hy => ?_⟩
  rcases List.mem_cons.mp hy with e | e
  · rw [e]; exact tw_le x hx
  · exact h3 x hx y e
/-- how many aren't above p -/
def cnt (l : List VQ) (p : VQ) : Nat := (l.takeWhile (leq p)).length
theorem cnt_le (l : List VQ) (p : VQ) : cnt l p ≤ l.length := by
  unfold cnt; exact (List.takeWhile_sublist _).length_le
theorem cnt_yes {l : List VQ} {p x : VQ} {i : Nat} (h : Srt l) (hx : l[i]? = some x) (k : x.2 ≤ p.2) : i < cnt l p := by
  refine Decidable.byContradiction fun z => ?_
  have z : cnt l p ≤ i := Nat.not_lt.mp z
  have e : l = l.takeWhile (leq p) ++ l.dropWhile (leq p) := List.takeWhile_append_dropWhile.symm
  rw [e, List.getElem?_append_right z] at hx
  exact absurd k (Rat.not_le.mpr (dw_gt h x (List.mem_of_getElem? hx)))
theorem cnt_no {l : List VQ} {p x : VQ} {i : Nat} (hx : l[i]? = some x) (k : p.2 < x.2) : cnt l p ≤ i := by
  refine Decidable.byContradiction fun z => ?_
  have z : i < cnt l p := Nat.not_le.mp z
  have e : l = l.takeWhile (leq p) ++ l.dropWhile (leq p) := List.takeWhile_append_dropWhile.symm
  rw [e, List.getElem?_append_left z] at hx
  exact absurd (tw_le x (List.mem_of_getElem? hx)) (Rat.not_le.mpr k)
theorem ins_at (l : List VQ) (p : VQ) : l.take (cnt l p) ++ p :: l.drop (cnt l p) = insr l p := by
  have e : l = l.takeWhile (leq p) ++ l.dropWhile (leq p) := List.takeWhile_append_dropWhile.symm
  have h1 : l.take (cnt l p) = l.takeWhile (leq p) := (congrArg (List.take (cnt l p)) e).trans (List.take_left' rfl)
  have h2 : l.drop (cnt l p) = l.dropWhile (leq p) := (congrArg (List.drop (cnt l p)) e).trans (List.drop_left' rfl)
  rw [h1, h2]; rfl
theorem filt_tw {l : List VQ} {p : VQ} (h : Srt l) : l.filter (leq p) = l.takeWhile (leq p) := by
  have e : l = l.takeWhile (leq p) ++ l.dropWhile (leq p) := List.takeWhile_append_dropWhile.symm
  conv => lhs; rw [e]
  rw [List.filter_append, (List.filter_eq_self (p := leq p)).mpr fun x hx => tw_mem hx, (List.filter_eq_nil_iff (p := leq p)).mpr fun x hx z => absurd (of_decide_eq_true (show decide (x.2 ≤ p.2) = true from z)) (Rat.not_le.mpr (dw_gt h x hx)), List.append_nil]
theorem srt_succ {l : List VQ} {i : Nat} {p : VQ} (h : l[i]? = some p) : srt (l.take (i + 1)) = insr (srt (l.take i)) p := by
  unfold srt
  rw [List.take_add_one, h, List.foldl_append]; rfl
theorem srt_len (l : List VQ) : (srt l).length = l.length := by
  have : ∀ (l acc : List VQ), (l.foldl insr acc).length = acc.length + l.length := by
    intro l
    induction l with
    | nil => intro acc; rfl
    | cons p l ih =>
      intro acc
      rw [List.foldl_cons, ih, List.length_cons]
      unfold insr
      rw [List.length_append, List.length_cons]
      have e : (acc.takeWhile (leq p)).length + (acc.dropWhile (leq p)).length = acc.length := by
        rw [← List.length_append, List.takeWhile_append_dropWhile]
      omega
  have := this l []
  rw [List.length_nil, Nat.zero_add] at this
  exact this
theorem srt_srt (l : List VQ) : Srt (srt l) := by
  have : ∀ (l acc : List VQ), Srt acc → Srt (l.foldl insr acc) := by
    intro l
    induction l with
    | nil => intro acc h; exact h
    | cons p l ih => intro acc h; exact ih _ (h.ins p)
  exact this l [] List.Pairwise.nil
theorem ins_mem {l : List VQ} {p x : VQ} (h : x ∈ insr l p) : x = p ∨ x ∈ l := by
  unfold insr at h
  have e : l = l.takeWhile (leq p) ++ l.dropWhile (leq p) := List.takeWhile_append_dropWhile.symm
  rcases List.mem_append.mp h with h | h
  · exact .inr (by rw [e]; exact List.mem_append.mpr (.inl h))
  · rcases List.mem_cons.mp h with h | h
    · exact .inl h
    · exact .inr (by rw [e]; exact List.mem_append.mpr (.inr h))
theorem srt_mem {l : List VQ} {x : VQ} (h : x ∈ srt l) : x ∈ l := by
  have : ∀ (l acc : List VQ), x ∈ l.foldl insr acc → x ∈ acc ∨ x ∈ l := by
    intro l
    induction l with
    | nil => intro acc h; exact .inl h
    | cons p l ih =>
      intro acc h
      rcases ih _ h with h | h
      · rcases ins_mem h with h | h
        · exact .inr (by rw [h]; exact List.mem_cons_self)
        · exact .inl h
      · exact .inr (List.mem_cons_of_mem _ h)
  rcases this l [] h with h | h
  · cases h
  · exact h
end HP
namespace HP
open PySem PySem.Spec PyProof.Rows L2
/-! ### promises -/
/-- a list or a tuple -/
def SqE (tu : Bool) (K : PySem.W.Frag) (H : Hp) (a : Addr) (xs : List V) : Prop := if tu = true then H a = some (.tup xs) else H a = some (.lst xs)
theorem SqE.same {tu : Bool} {K : PySem.W.Frag} {H H' : Hp} {a : Addr} {xs : List V} (h : SqE tu K H a xs) (s : Same H H') : SqE tu K H' a xs := by
  unfold SqE at *
  cases tu
  · exact s _ _ h
  · exact s _ _ h
def iSeq (K : PySem.W.Frag) (tl : TE) : TI := fun σ H R => tl σ H fun x H1 => ∃ a, x = .ref a ∧ (((∃ xs, SqL K H1 a xs) ∧ R (Itl K a) H1) ∨ ((∃ xs, SqT K H1 a xs) ∧ R (Itt K a) H1))
theorem pi_seq {X : Cx} {tg l : Expr} {tl : TE} (hl : PE X l tl) : PI X tg l (iSeq X.K tl) := by
  refine ⟨fun pins s σ H R I h => thn (hl.run pins s σ H _ I h) fun v s1 ⟨x, H1, I1, r1, a, e, q1⟩ => ?_⟩
  subst e
  cases r1
  rcases q1 with ⟨⟨xs, hq⟩, q⟩ | ⟨⟨xs, hq⟩, q⟩
  · obtain ⟨its, rv, p, hz⟩ := I1.list hq
    refine wpAny_pyIter_list p.isList ⟨s1.heap.objs.size, [s1.heap.objs.size], _, _, H1, rfl, I1.kept (t' := s1.toks) fun b o e => Heap.get?_push_of_some _ e, turn_list a _, ⟨_, Heap.get?_push_size _ rfl, rfl, rfl⟩, fun b hb => ?_, q⟩
    obtain rfl : b = s1.heap.objs.size := by simpa using hb
    exact I1.fpOk (Nat.le_refl _) (I1.hok.fresh (Nat.le_refl _))
  · obtain ⟨its, rv, p, hz⟩ := I1.tuple hq
    refine wpAny_pyIter_tuple (show s1.heap.IsTuple a its.toArray from p) ⟨s1.heap.objs.size, [s1.heap.objs.size], _, _, H1, rfl, I1.kept (t' := s1.toks) fun b o e => Heap.get?_push_of_some _ e, turn_tuple a _, ⟨_, Heap.get?_push_size _ rfl, rfl, rfl⟩, fun b hb => ?_, q⟩
    obtain rfl : b = s1.heap.objs.size := by simpa using hb
    exact I1.fpOk (Nat.le_refl _) (I1.hok.fresh (Nat.le_refl _))
theorem q_seqI {K : PySem.W.Frag} {tl : TE} {σ : L2.St} {H : Hp} {R : It → Hp → Prop} (q : tl σ H fun x H1 => ∃ a, x = .ref a ∧ (((∃ xs, SqL K H1 a xs) ∧ R (Itl K a) H1) ∨ ((∃ xs, SqT K H1 a xs) ∧ R (Itt K a) H1))) : iSeq K tl σ H R := q
theorem for_seq {tu : Bool} {K : PySem.W.Frag} {a : Addr} {xs : List V} {g : TG} {tb : TS} {D : Ends} {σ : L2.St} {H : Hp} (h : SqE tu K H a xs) (Pv : Nat → L2.St → Hp → Prop) (h0 : Pv 0 σ H) (hl : ∀ i σ H', i ≤ xs.length → Pv i σ H' → SqE tu K H' a xs)
    (hs : ∀ i x σ H, xs[i]? = some x → Pv i σ H → g x σ H fun σ2 H2 => tb { D with nx := Pv (i + 1), ct := Pv (i + 1), bk := D.nx } σ2 H2) (hd : ∀ σ H, Pv xs.length σ H → D.nx σ H) :
    ((∃ xs, SqL K H a xs) ∧ ∃ W : Nat → Nat → L2.St → Hp → Prop, (∃ m, W 0 m σ H) ∧ ∀ i m σ H, W i m σ H → ((Itl K a).stop i H ∧ D.nx σ H) ∨ ((Itl K a).go i H ∧ ∃ N : L2.St → Hp → Prop, (∀ σ' H', N σ' H' → ∃ m', m' < m ∧ W (i + 1) m' σ' H') ∧ ∀ x H', (Itl K a).yld i H x H' → g x σ H' fun σ2 H2 => tb { D with nx := N, ct := N, bk := D.nx } σ2 H2)) ∨
    ((∃ xs, SqT K H a xs) ∧ ∃ W : Nat → Nat → L2.St → Hp → Prop, (∃ m, W 0 m σ H) ∧ ∀ i m σ H, W i m σ H → ((Itt K a).stop i H ∧ D.nx σ H) ∨ ((Itt K a).go i H ∧ ∃ N : L2.St → Hp → Prop, (∀ σ' H', N σ' H' → ∃ m', m' < m ∧ W (i + 1) m' σ' H') ∧ ∀ x H', (Itt K a).yld i H x H' → g x σ H' fun σ2 H2 => tb { D with nx := N, ct := N, bk := D.nx } σ2 H2)) := by
  cases tu with
  | false =>
    refine .inl ⟨⟨xs, SqL.of h⟩, for_list (xs := xs) Pv h0 (fun i σ H' hi p => SqL.of (hl i σ H' hi p)) hs hd⟩
  | true =>
    refine .inr ⟨⟨xs, SqT.of h⟩, for_tup (xs := xs) Pv h0 (fun i σ H' hi p => SqT.of (hl i σ H' hi p)) hs hd⟩
def spIsList (K : PySem.W.Frag) : Sp := fun vs H Q _ => ∃ tu a xs lo hi, vs = [.ref a, .int lo, .int hi] ∧ SqE tu K H a xs ∧ ∀ H', Same H H' → Q (.bl (decide (lo ≤ xs.length) && decide ((xs.length : Int) ≤ hi))) H'
def spNeedL (K : PySem.W.Frag) : Sp := fun vs H Q _ => ∃ tu a xs qs, vs = [.ref a] ∧ SqE tu K H a xs ∧ Itq H xs qs ∧ xs.length ≤ 400 ∧ ∀ H', Same H H' → Q .non H'
def spTotal (K : PySem.W.Frag) : Sp := fun vs H Q _ => ∃ tu a xs qs v c, vs = [.ref a, v] ∧ SqE tu K H a xs ∧ Itq H xs qs ∧ xs.length ≤ 400 ∧ NQ H v c ∧ Sum qs c ∧ ∀ z H', Same H H' → NQ H' z (qs.foldl (· + ·) c) → Q z H'
/-- values with their rationals -/
def Ivq (H : Hp) (l : List VQ) : Prop := ∀ p ∈ l, NQ H p.1 p.2 ∧ BQ 600 p.2
theorem Ivq.same {H H' : Hp} {l : List VQ} (h : Ivq H l) (s : Same H H') : Ivq H' l := fun p hp => ⟨(h p hp).1.same' s, (h p hp).2⟩
def spHow : Sp := fun vs H Q _ => ∃ o l v c, vs = [.ref o, v] ∧ H o = some (.lst (l.map (·.1))) ∧ Ivq H l ∧ Srt l ∧ l.length ≤ 1000 ∧ NQ H v c ∧ BQ 600 c ∧ ∀ H', Same H H' → Q (.int (cnt l (v, c))) H'
def spRising (K : PySem.W.Frag) : Sp := fun vs H Q _ => ∃ tu a l d, vs = [.ref a, .bl d] ∧ SqE tu K H a (l.map (·.1)) ∧ Ivq H l ∧ l.length ≤ 400 ∧ ∀ p H', Same H H' → H p = none → H' p = some (.lst (if d = true then ((srt l).map (·.1)).reverse else (srt l).map (·.1))) → Q (.ref p) H'
end HP
namespace HP
open PySem PySem.Spec PyProof.Rows L2
/-! ### lists: isinstance, insert, reverse, clear, slices, zip -/
section
variable {σ : L2.St} {H : Hp} {Q : VK} {te : TE} {K : PySem.W.Frag}
theorem sql_ty {a : Addr} {xs : List V} (h : H a = some (.lst xs)) : TyX K H (.ref a) (.type "list") := .base (.lst h)
theorem kl_l : kitB "list" "list" = some true := by decide +kernel
theorem kt_l : kitB "tuple" "list" = some false := by decide +kernel
theorem kt_t : kitB "tuple" "tuple" = some true := by decide +kernel
theorem q_isE {tu : Bool} {a tp : Addr} {xs : List V} (h : SqE tu K H a xs) (ht : H tp = some (.tup [.ty "list", .ty "tuple"])) (q : Q (.bl true) H) : rIsiT K [.ref a, .ref tp] H Q := by
  cases tu with
  | false =>
    refine ⟨_, tp, _, _, _, true, rfl, ht, .cons (.ty _) (.cons (.ty _) .nil), sql_ty (show H a = some (.lst xs) from h), ?_, q⟩
    unfold PySem.W.kitAny
    rw [kit_ty kl_l]
  | true =>
    refine ⟨_, tp, _, _, _, true, rfl, ht, .cons (.ty _) (.cons (.ty _) .nil), .base (.tup (show H a = some (.tup xs) from h)), ?_, q⟩
    unfold PySem.W.kitAny
    rw [kit_ty kt_l]
    unfold PySem.W.kitAny
    rw [kit_ty kt_t]
theorem q_isL {tu : Bool} {a : Addr} {xs : List V} (h : SqE tu K H a xs) (q : Q (.bl (!tu)) H) : rIsi K [.ref a, .ty "list"] H Q := by
  cases tu with
  | false => exact q_isi (sql_ty (show H a = some (.lst xs) from h)) kl_l q
  | true => exact q_isi (.base (.tup (show H a = some (.tup xs) from h))) kt_l q
theorem q_lenE {tu : Bool} {a : Addr} {xs : List V} (h : SqE tu K H a xs) (q : Q (.int xs.length) H) : rLenK K [.ref a] H Q := by
  cases tu with
  | false => exact q_lenL (SqL.of h) q
  | true => exact q_lenT (SqT.of h) q
def rInsert : V → List V → Hp → VK → Prop := fun x vs H Q => ∃ (l : Addr) (xs : List V) (i : Int) (y : V), x = .ref l ∧ vs = [.int i, y] ∧ H l = some (.lst xs) ∧ xs.length < sizeLine ∧ 0 ≤ i ∧ i < 2 ^ 63 ∧
    Q .non (upd H l (.lst (xs.take i.toNat ++ [y] ++ xs.drop i.toNat)))
theorem mt_ins {X : Cx} : MtR X "list.insert" rInsert := mt_insert
theorem q_ins {l : Addr} {xs : List V} {i : Nat} {y : V} (h : H l = some (.lst xs)) (hl : xs.length < 100000) (hi : i ≤ xs.length) (q : Q .non (upd H l (.lst (xs.take i ++ y :: xs.drop i)))) : rInsert (.ref l) [.int (i : Int), y] H Q :=
  ⟨l, xs, (i : Int), y, rfl, rfl, h, by rw [sizeLine_eq]; omega, by omega, by omega, by rw [Int.toNat_natCast, List.append_assoc]; exact q⟩
theorem q_rev {l : Addr} {xs : List V} (h : H l = some (.lst xs)) (q : Q .non (upd H l (.lst xs.reverse))) : rReverse (.ref l) [] H Q := ⟨l, xs, rfl, rfl, h, q⟩
theorem q_clr {l : Addr} {xs : List V} (h : H l = some (.lst xs)) (q : Q .non (upd H l (.lst []))) : rClear (.ref l) [] H Q := ⟨l, xs, rfl, rfl, h, q⟩
theorem q_bm0 {T : String} {r : V → List V → Hp → VK → Prop} {to : TE} (q : to σ H fun x H1 => tyV K T x H1 ∧ r x [] H1 Q) : tBM0 K T r to σ H Q := q
theorem q_revL {te : TE} (q : te σ H fun x H1 => ∃ a xs, x = .ref a ∧ SqL K H1 a xs ∧ ∀ p, H1 p = none → Q (.ref p) (upd H1 p (.lst xs.reverse))) : tRevL K te σ H Q := q
def rListOf (K : PySem.W.Frag) : List V → Hp → VK → Prop := fun xs H Q => ∃ p ys, xs = [.ref p] ∧ (SqL K H p ys ∨ SqT K H p ys) ∧ ∀ l, H l = none → Q (.ref l) (upd H l (.lst ys))
theorem call_listK {X : Cx} : CallR X (.type "list") (rListOf X.K) := call_list_of
def rTupOf (K : PySem.W.Frag) : List V → Hp → VK → Prop := fun xs H Q => ∃ p ys, xs = [.ref p] ∧ ((SqL K H p ys ∧ ∀ l, H l = none → Q (.ref l) (upd H l (.tup ys))) ∨ (SqT K H p ys ∧ Q (.ref p) H))
theorem call_tupK {X : Cx} : CallR X (.type "tuple") (rTupOf X.K) := call_tuple_of
theorem q_listE {tu : Bool} {p : Addr} {ys : List V} (h : SqE tu K H p ys) (q : ∀ l, H l = none → Q (.ref l) (upd H l (.lst ys))) : rListOf K [.ref p] H Q := by
  cases tu with
  | false => exact ⟨p, ys, rfl, .inl (SqL.of h), q⟩
  | true => exact ⟨p, ys, rfl, .inr (SqT.of h), q⟩
theorem q_tupL {p : Addr} {ys : List V} (h : H p = some (.lst ys)) (q : ∀ l, H l = none → Q (.ref l) (upd H l (.tup ys))) : rTupOf K [.ref p] H Q := ⟨p, ys, rfl, .inl ⟨SqL.of h, q⟩⟩
theorem cut_take (xs : List V) (n : Nat) : cutV xs none (some (n : Int)) = xs.take n := by
  unfold cutV HT.sIx
  simp only [List.drop_zero, Nat.sub_zero]
  rw [if_neg (by omega)]
  by_cases h : n ≤ xs.length
  · rw [show min (n : Int).toNat xs.length = n by omega]
  · rw [show min (n : Int).toNat xs.length = xs.length by omega, List.take_of_length_le (Nat.le_refl _), List.take_of_length_le (by omega)]
theorem cut_drop (xs : List V) (n : Nat) : cutV xs (some (n : Int)) none = xs.drop n := by
  unfold cutV HT.sIx
  simp only []
  rw [if_neg (by omega)]
  by_cases h : n ≤ xs.length
  · rw [show min (n : Int).toNat xs.length = n by omega, List.take_of_length_le (by rw [List.length_drop]; omega)]
  · rw [show min (n : Int).toNat xs.length = xs.length by omega, List.drop_of_length_le (Nat.le_refl _), List.drop_of_length_le (by omega)]; exact List.take_nil
theorem q_slL {a : Addr} {xs : List V} {lo hi : Option Int} (h : H a = some (.lst xs)) (q : ∀ p, H p = none → Q (.ref p) (upd H p (.lst (cutV xs lo hi)))) : rSlL K (.ref a) lo hi H Q := ⟨a, xs, rfl, SqL.of h, q⟩
theorem q_cat {a b : Addr} {xs ys : List V} (h : H a = some (.lst xs)) (k : H b = some (.lst ys)) (hl : xs.length + ys.length ≤ 100000) (q : ∀ p, H p = none → Q (.ref p) (upd H p (.lst (xs ++ ys)))) : rCat (.ref a) (.ref b) H Q := ⟨a, b, xs, ys, rfl, rfl, h, k, by rw [sizeLine_eq]; omega, q⟩
theorem q_zip {ta : TA} {R : It → Hp → Prop} (q : ta σ H fun vs H1 => ∃ a b xs ys, vs = [.ref a, .ref b] ∧ SqL K H1 a xs ∧ SqL K H1 b ys ∧ R (Itz K a b) H1) : iZip K ta σ H R := q
end
theorem lc_zipL {K : PySem.W.Frag} {a b : Addr} {xs ys : List V} {g : TG} {tt : TT} {te : TE} {vs : List Nat} {σ : L2.St} {H1 : Hp} {D : Addr} {Qd : Hp → Prop} (hl : xs.length = ys.length) (Pv : Nat → Hp → Prop) (h0 : Pv 0 (upd H1 D (.lst []))) (hq : ∀ i H, Pv i H → SqL K H a xs ∧ SqL K H b ys)
    (hs : ∀ (i : Nat) (x y : V) (T : Addr) (H : Hp), xs[i]? = some x → ys[i]? = some y → Pv i H → H T = none → g (.ref T) (wipe σ vs) (upd H T (.tup [x, y])) fun σ2 H2 => wipe σ2 vs = wipe σ vs ∧ tt σ2 H2 fun b H3 =>
      if b = true then te σ2 H3 fun y H4 => ∃ acc, H4 D = some (.lst acc) ∧ acc.length < sizeLine ∧ Pv (i + 1) (upd H4 D (.lst (acc ++ [y]))) else Pv (i + 1) H3) (hd : ∀ H, Pv xs.length H → Qd H) :
    ∃ W : Nat → Nat → Hp → Prop, (∃ m, W 0 m (upd H1 D (.lst []))) ∧ ∀ i m H, W i m H →
      ((Itz K a b).stop i H ∧ Qd H) ∨ ((Itz K a b).go i H ∧ ∃ Nx : Hp → Prop, (∀ H', Nx H' → ∃ m', m' < m ∧ W (i + 1) m' H') ∧ ∀ x H', (Itz K a b).yld i H x H' → g x (wipe σ vs) H' fun σ2 H2 => wipe σ2 vs = wipe σ vs ∧ tt σ2 H2 fun b H3 =>
        if b = true then te σ2 H3 fun y H4 => ∃ acc, H4 D = some (.lst acc) ∧ acc.length < sizeLine ∧ Nx (upd H4 D (.lst (acc ++ [y]))) else Nx H3) := by
  refine ⟨fun i m H => m = xs.length - i ∧ i ≤ xs.length ∧ Pv i H, ⟨xs.length, by simp, Nat.zero_le _, h0⟩, ?_⟩
  rintro i m H ⟨rfl, hi, p⟩
  obtain ⟨qx, qy⟩ := hq i H p
  by_cases hlt : i < xs.length
  · have hx : xs[i]? = some xs[i] := List.getElem?_eq_getElem hlt
    have hlt2 : i < ys.length := by omega
    have hy : ys[i]? = some ys[i] := List.getElem?_eq_getElem hlt2
    refine .inr ⟨⟨xs, ys, _, _, qx, qy, hx, hy⟩, Pv (i + 1), fun H' p' => ⟨xs.length - (i + 1), by omega, rfl, hlt, p'⟩, fun v H' y => ?_⟩
    obtain ⟨T, x', y', rfl, hT, rfl, f1, f2⟩ := y
    exact hs i x' y' T H (f1 xs qx) (f2 ys qy) p hT
  · have e : i = xs.length := by omega
    subst e
    exact .inl ⟨⟨xs, ys, qx, qy, Or.inl (Nat.le_refl _)⟩, hd H p⟩
theorem pg_tupK {X : Cx} {K : PySem.W.Frag} {pos : Pos} {es : List Expr} {k : Nat} {t : TGs} {n : Nat} (hK : X.K = K) (hc : X.calm = true) (h : PGs X es t) (hn : (assignEach es X.env).length = n := by rfl) (hst : (assignEach es X.env).findIdx? (·.1) = none := by rfl) : PG X (.Tuple es k pos) (gTup K n t) := hK ▸ pg_tup hc h hn hst
theorem ix_tupK {X : Cx} {K : PySem.W.Frag} (h : X.K = K) : IxR X (rIxT K) := h ▸ ix_tup
/-! promises of the law's own defs -/
/-- all numbers are small -/
def Sml (l : List VQ) : Prop := ∀ p ∈ l, BQ 200 p.2
def spSome5 : Sp := fun vs H Q _ => ∃ bx n, vs = [.ref bx] ∧ Box H bx n ∧ n < 700000 ∧ ∀ p l H', H' p = some (.lst (l.map (·.1))) → p ≠ bx → Ivq H' l → Sml l → l.length ≤ 10 → Go bx H H' → Box H' bx (n + 10000) → Q (.ref p) H'
def spPut5 : Sp := fun vs H Q _ => ∃ a l, vs = [.ref a] ∧ H a = some (.lst (l.map (·.1))) ∧ Ivq H l ∧ l.length ≤ 400 ∧ ∀ p H', Same H H' → H p = none → H' p = some (.lst ((srt l).map (·.1))) → Q (.ref p) H'
def spSum5 : Sp := fun vs H Q _ => ∃ a l v c, vs = [.ref a, v] ∧ H a = some (.lst (l.map (·.1))) ∧ Ivq H l ∧ l.length ≤ 400 ∧ NQ H v c ∧ Sum (l.map (·.2)) c ∧ ∀ z H', Same H H' → NQ H' z ((l.map (·.2)).foldl (· + ·) c) → Q z H'
def spRight5 : Sp := fun vs H Q _ => ∃ a l v c b, vs = [.ref a, v, .bl b] ∧ H a = some (.lst (l.map (·.1))) ∧ Ivq H l ∧ l.length ≤ 400 ∧ NQ H v c ∧ Sum (l.map (·.2)) c ∧ Sum (l.map (·.2)) 0 ∧ ∀ H', Same H H' → Q (.bl true) H'
theorem Ivq.itq {H : Hp} : ∀ {l : List VQ}, Ivq H l → Itq H (l.map (·.1)) (l.map (·.2))
  | [], _ => .nil
  | p :: l, h => .cons (h p List.mem_cons_self) (Ivq.itq fun x hx => h x (List.mem_cons_of_mem _ hx))
theorem Itq.ivq {H : Hp} : ∀ {vs : List V} {qs : List Rat}, Itq H vs qs → ∃ l : List VQ, l.map (·.1) = vs ∧ l.map (·.2) = qs ∧ Ivq H l
  | _, _, .nil => ⟨[], rfl, rfl, fun _ h => nomatch h⟩
  | _, _, .cons (a := v) (b := q) h t => by
    obtain ⟨l, h1, h2, h3⟩ := Itq.ivq t
    refine ⟨(v, q) :: l, by rw [List.map_cons, h1], by rw [List.map_cons, h2], fun p hp => ?_⟩
    rcases List.mem_cons.mp hp with e | hp
    · rw [e]; exact h
    · exact h3 p hp
end HP
namespace HP
open PySem PySem.Spec PyProof.Rows L2
/-! ### small numbers in a list that grows -/
def Smn (H : Hp) (xs : List V) : Prop := ∀ x ∈ xs, ∃ t b, Num H x t b ∧ t.natAbs < 10 ^ 60 ∧ b.natAbs < 10 ^ 60
theorem Smn.nil {H : Hp} : Smn H [] := fun _ h => nomatch h
theorem Smn.same {H H' : Hp} {xs : List V} (h : Smn H xs) (s : Same H H') : Smn H' xs := fun x hx => by
  obtain ⟨t, b, N, h1, h2⟩ := h x hx
  exact ⟨t, b, N.same s, h1, h2⟩
theorem Smn.go {H H' : Hp} {xs : List V} {bx : Addr} {n : Int} (h : Smn H xs) (B : Box H bx n) (g : Go bx H H') : Smn H' xs := fun x hx => by
  obtain ⟨t, b, N, h1, h2⟩ := h x hx
  exact ⟨t, b, N.go B g, h1, h2⟩
theorem Num.lst {H : Hp} {v : V} {t b : Int} {o : Addr} {xs : List V} {z : HO} (h : Num H v t b) (ho : H o = some (.lst xs)) : Num (upd H o z) v t b := by
  rcases h with ⟨rfl, rfl⟩ | ⟨a, rfl, ha, hb⟩
  · exact .inl ⟨rfl, rfl⟩
  · refine .inr ⟨a, rfl, ?_, hb⟩
    rw [upd_ne]
    · exact ha
    · intro e
      rw [e, ho] at ha
      cases ha
theorem NQ.lst {H : Hp} {v : V} {q : Rat} {o : Addr} {xs : List V} {z : HO} (h : NQ H v q) (ho : H o = some (.lst xs)) : NQ (upd H o z) v q := Num.lst h ho
theorem Smn.app {H : Hp} {xs : List V} {v : V} {t b : Int} {o : Addr} {ys : List V} {z : HO} (h : Smn H xs) (N : Num H v t b) (h1 : t.natAbs < 10 ^ 60) (h2 : b.natAbs < 10 ^ 60) (ho : H o = some (.lst ys)) : Smn (upd H o z) (xs ++ [v]) := fun x hx => by
  rcases List.mem_append.mp hx with hx | hx
  · obtain ⟨t, b, N, h1, h2⟩ := h x hx
    exact ⟨t, b, N.lst ho, h1, h2⟩
  · rw [List.mem_singleton.mp hx]
    exact ⟨t, b, N.lst ho, h1, h2⟩
theorem Smn.ivq {H : Hp} : ∀ {xs : List V}, Smn H xs → ∃ l : List VQ, l.map (·.1) = xs ∧ Ivq H l ∧ Sml l
  | [], _ => ⟨[], rfl, (fun _ h => nomatch h), (fun _ h => nomatch h)⟩
  | x :: xs, h => by
    obtain ⟨l, e, h1, h2⟩ := Smn.ivq (xs := xs) fun y hy => h y (List.mem_cons_of_mem _ hy)
    obtain ⟨t, b, N, b1, b2⟩ := h x List.mem_cons_self
    have hb : b ≠ 0 := by have := N.pos; omega
    have B := BQ.of (bt60 b1) (bt60 b2) hb
    refine ⟨(x, (t : Rat) / (b : Rat)) :: l, by rw [List.map_cons, e], fun p hp => ?_, fun p hp => ?_⟩
    · rcases List.mem_cons.mp hp with e | hp
      · rw [e]; exact ⟨N.nq', B.mono (by decide)⟩
      · exact h1 p hp
    · rcases List.mem_cons.mp hp with e | hp
      · rw [e]; exact B
      · exact h2 p hp
theorem Ivq.nn {H : Hp} {l : List VQ} (h : Ivq H l) : ∀ x ∈ l.map (·.1), ∃ t b, Num H x t b ∧ Bt 600 t ∧ Bt 600 b := fun x hx => by
  obtain ⟨p, hp, rfl⟩ := List.mem_map.mp hx
  exact ⟨_, _, (h p hp).1, (h p hp).2.t, (h p hp).2.b⟩
theorem Smn.nn {H : Hp} {xs : List V} (h : Smn H xs) : ∀ x ∈ xs, ∃ t b, Num H x t b ∧ Bt 600 t ∧ Bt 600 b := fun x hx => by
  obtain ⟨t, b, N, h1, h2⟩ := h x hx
  exact ⟨t, b, N, (bt60 h1).mono (by decide), (bt60 h2).mono (by decide)⟩
theorem dp_nn {K : PySem.W.Frag} {H : Hp} : ∀ {xs : List V}, (∀ x ∈ xs, ∃ t b, Num H x t b ∧ Bt 600 t ∧ Bt 600 b) → ∃ ds, DpAll K H xs ds ∧ (∀ d ∈ ds, GD d 2 2) ∧ ds.length = xs.length
  | [], _ => ⟨[], .nil, (fun _ h => nomatch h), rfl⟩
  | x :: xs, h => by
    obtain ⟨ds, h1, h2, h3⟩ := dp_nn (K := K) (xs := xs) fun y hy => h y (List.mem_cons_of_mem _ hy)
    obtain ⟨t, b, N, b1, b2⟩ := h x List.mem_cons_self
    refine ⟨dN t b :: ds, .cons N.dp h1, fun d hd => ?_, by rw [List.length_cons, h3, List.length_cons]⟩
    rcases List.mem_cons.mp hd with e | hd
    · rw [e]; exact gd_num (b1.mono (by decide)) (b2.mono (by decide))
    · exact h2 d hd
/-- a list of numbers against an empty one -/
theorem q_neE {K : PySem.W.Frag} {H : Hp} {Q : VK} {a b : Addr} {xs : List V} (h : ∀ x ∈ xs, ∃ t b, Num H x t b ∧ Bt 600 t ∧ Bt 600 b) (h1 : H a = some (.lst xs)) (h2 : H b = some (.lst [])) (q : Q (.bl (!xs.isEmpty)) H) : rNeD K (.ref a) (.ref b) H Q := by
  obtain ⟨ds, D1, D2, D3⟩ := dp_nn (K := K) h
  refine ⟨.list ds, .list [], .lst (SqL.of h1) D1, .lst (SqL.of h2) .nil, (gd_list D2).shaped (by decide), rfl, ?_⟩
  have e : PyData.eqv (.list ds) (.list []) = xs.isEmpty := by
    cases ds <;> cases xs <;> first | rfl | (simp at D3)
  rw [e]; exact q
/-- two lists of the same numbers -/
theorem q_neL {K : PySem.W.Frag} {H : Hp} {Q : VK} {a b : Addr} {xs : List V} (h : ∀ x ∈ xs, ∃ t b, Num H x t b ∧ Bt 600 t ∧ Bt 600 b) (h1 : H a = some (.lst xs)) (h2 : H b = some (.lst xs)) (q : Q (.bl false) H) : rNeD K (.ref a) (.ref b) H Q := by
  obtain ⟨ds, D1, D2, D3⟩ := dp_nn (K := K) h
  exact q_neGD (.lst (SqL.of h1) D1) (.lst (SqL.of h2) D1) (gd_list D2) (by decide) q
theorem q_eqL {K : PySem.W.Frag} {H : Hp} {Q : VK} {a b : Addr} {xs : List V} (h : ∀ x ∈ xs, ∃ t b, Num H x t b ∧ Bt 600 t ∧ Bt 600 b) (h1 : H a = some (.lst xs)) (h2 : H b = some (.lst xs)) (q : Q (.bl true) H) : rEqD K (.ref a) (.ref b) H Q := by
  obtain ⟨ds, D1, D2, D3⟩ := dp_nn (K := K) h
  exact q_eqGD (.lst (SqL.of h1) D1) (.lst (SqL.of h2) D1) (gd_list D2) (by decide) q
theorem q_eq00 {K : PySem.W.Frag} {H : Hp} {Q : VK} {a b : Addr} (h1 : H a = some (.lst [])) (h2 : H b = some (.lst [])) (q : Q (.bl true) H) : rEqD K (.ref a) (.ref b) H Q :=
  q_eqL (xs := []) (fun _ h => nomatch h) h1 h2 q
/-- what is shown of three lists of numbers -/
def dL (l : List VQ) : List PyData := l.map fun p => dN p.2.num (p.2.den : Int)
theorem Ivq.dp {K : PySem.W.Frag} {H : Hp} : ∀ {l : List VQ}, Ivq H l → DpAll K H (l.map (·.1)) (dL l)
  | [], _ => .nil
  | p :: l, h => .cons (h p List.mem_cons_self).1.dp (Ivq.dp fun x hx => h x (List.mem_cons_of_mem _ hx))
theorem Ivq.gd {H : Hp} {l : List VQ} (h : Ivq H l) : ∀ d ∈ dL l, GD d 2 2 := fun d hd => by
  obtain ⟨p, hp, rfl⟩ := List.mem_map.mp hd
  exact gd_num ((h p hp).2.t.mono (by decide)) ((h p hp).2.b.mono (by decide))
theorem Ivq.rev {H : Hp} {l : List VQ} (h : Ivq H l) : Ivq H l.reverse := fun p hp => h p (List.mem_reverse.mp hp)
theorem dL_len (l : List VQ) : (dL l).length = l.length := List.length_map ..
def sh1 (l : List VQ) : Str := (PyData.list (dL l)).shown
def sh3 (l : List VQ) : Str := (PyData.list [.list (dL l), .list (dL l.reverse), .list (dL l)]).shown
theorem q_repr1 {K : PySem.W.Frag} {H : Hp} {Q : VK} {f : Addr} {l : List VQ} (h : Ivq H l) (hl : l.length ≤ 400) (h0 : H f = some (.lst (l.map (·.1)))) (q : Q (.str (sh1 l)) H) : rRepr K [.ref f] H Q :=
  q_repr (.lst (SqL.of h0) h.dp) (gd_list h.gd) (by decide) (by rw [dL_len]; omega) q
theorem q_repr3 {K : PySem.W.Frag} {H : Hp} {Q : VK} {f p1 p2 p3 : Addr} {l : List VQ} (h : Ivq H l) (hl : l.length ≤ 400) (h0 : H f = some (.lst [.ref p1, .ref p2, .ref p3])) (h1 : H p1 = some (.lst (l.map (·.1)))) (h2 : H p2 = some (.lst (l.map (·.1)).reverse)) (h3 : H p3 = some (.lst (l.map (·.1)))) (q : Q (.str (sh3 l)) H) : rRepr K [.ref f] H Q := by
  rw [← List.map_reverse] at h2
  have g1 : GD (.list (dL l)) 3 1200 := (gd_list h.gd).mono (by decide) (by rw [dL_len]; omega)
  have g2 : GD (.list (dL l.reverse)) 3 1200 := (gd_list h.rev.gd).mono (by decide) (by rw [dL_len, List.length_reverse]; omega)
  refine q_repr (.lst (SqL.of h0) (.cons (.lst (SqL.of h1) h.dp) (.cons (.lst (SqL.of h2) h.rev.dp) (.cons (.lst (SqL.of h3) h.dp) .nil)))) ((gd_list (k := 3) (m := 1200) fun d hd => ?_).mono (Nat.le_refl _) (show (1200 + 1) * 3 ≤ 4000 by decide)) (by decide) (by decide) q
  rcases List.mem_cons.mp hd with e | hd
  · rw [e]; exact g1
  rcases List.mem_cons.mp hd with e | hd
  · rw [e]; exact g2
  rcases List.mem_cons.mp hd with e | hd
  · rw [e]; exact g1
  · cases hd
/-- whole sums -/
theorem NQ.isint {H : Hp} {v : V} {i : Int} (h : NQ H v (i : Rat)) : v = .int i := by
  unfold NQ at h
  rw [Rat.num_intCast, Rat.den_intCast] at h
  rcases h with ⟨e, _⟩ | ⟨_, _, _, h, _⟩
  · exact e
  · exact absurd h (by decide)
theorem Ivq.app {H : Hp} {l m : List VQ} (h : Ivq H l) (k : Ivq H m) : Ivq H (l ++ m) := fun p hp => (List.mem_append.mp hp).elim (h p) (k p)
theorem Ivq.srt {H : Hp} {l : List VQ} (h : Ivq H l) : Ivq H (HP.srt l) := fun p hp => h p (srt_mem hp)
theorem Ivq.lst {H : Hp} {l : List VQ} {o : Addr} {xs : List V} {z : HO} (h : Ivq H l) (ho : H o = some (.lst xs)) : Ivq (upd H o z) l := fun p hp => ⟨(h p hp).1.lst ho, (h p hp).2⟩
theorem Ivq.go {H H' : Hp} {l : List VQ} {bx : Addr} {n : Int} (h : Ivq H l) (B : Box H bx n) (g : Go bx H H') : Ivq H' l := fun p hp => ⟨(h p hp).1.go B g, (h p hp).2⟩
/-- rows of numbers whose bases have a common multiple that isn't great -/
structure Rws (H : Hp) (l : List VQ) : Prop where
  i : Ivq H l
  n : l.length ≤ 400
  e : ∃ E : Int, 0 < E ∧ Bt 2050 E ∧ ∀ p ∈ l, (p.2.den : Int) ∣ E
theorem Rws.same {H H' : Hp} {l : List VQ} (h : Rws H l) (s : Same H H') : Rws H' l := ⟨h.i.same s, h.n, h.e⟩
theorem Rws.go {H H' : Hp} {l : List VQ} {bx : Addr} {n : Int} (h : Rws H l) (B : Box H bx n) (g : Go bx H H') : Rws H' l := ⟨h.i.go B g, h.n, h.e⟩
theorem Rws.sum {H : Hp} {l : List VQ} {c : Rat} (h : Rws H l) (Bc : BQ 200 c) : Sum (l.map (·.2)) c := by
  obtain ⟨E, h1, h2, h3⟩ := h.e
  have hc := den_pos' c
  refine ⟨⟨E * c.den, Int.mul_pos h1 hc, (h2.mul Bc.b).mono (by decide), fun q hq => ?_, ⟨E, Int.mul_comm _ _⟩⟩, Bc.mono (by decide), by rw [List.length_map]; have := h.n; omega⟩
  obtain ⟨p, hp, rfl⟩ := List.mem_map.mp hq
  exact ⟨(h.i p hp).2, Int.dvd_trans (h3 p hp) ⟨c.den, rfl⟩⟩
theorem Rws.drop {H : Hp} {l : List VQ} (h : Rws H l) (k : Nat) : Rws H (l.drop k) := by
  obtain ⟨E, h1, h2, h3⟩ := h.e
  exact ⟨fun p hp => h.i p (List.mem_of_mem_drop hp), by rw [List.length_drop]; have := h.n; omega, E, h1, h2, fun p hp => h3 p (List.mem_of_mem_drop hp)⟩
theorem Rws.nil {H : Hp} : Rws H [] := ⟨(fun _ h => nomatch h), by decide, 1, by decide, ⟨by decide +kernel⟩, (fun _ h => nomatch h)⟩
theorem prodE : ∀ (l : List VQ), Sml l → ∃ E : Int, 0 < E ∧ Bt (200 * l.length + 1) E ∧ ∀ p ∈ l, (p.2.den : Int) ∣ E
  | [], _ => ⟨1, by decide, ⟨by decide⟩, (fun _ h => nomatch h)⟩
  | p :: l, h => by
    obtain ⟨E, h1, h2, h3⟩ := prodE l fun x hx => h x (List.mem_cons_of_mem _ hx)
    have hp := den_pos' p.2
    refine ⟨p.2.den * E, Int.mul_pos hp h1, ((h p List.mem_cons_self).b.mul h2).mono (by rw [List.length_cons]; omega), fun x hx => ?_⟩
    rcases List.mem_cons.mp hx with e | hx
    · rw [e]; exact ⟨E, rfl⟩
    · exact Int.dvd_trans (h3 x hx) ⟨p.2.den, Int.mul_comm _ _⟩
theorem Rws.few {H : Hp} {l : List VQ} (h : Ivq H l) (s : Sml l) (n : l.length ≤ 10) : Rws H l := by
  obtain ⟨E, h1, h2, h3⟩ := prodE l s
  exact ⟨h, by omega, E, h1, h2.mono (by omega), h3⟩
/-- bases below a hundred: 99! is a multiple of each -/
def fac : Nat → Nat
  | 0 => 1
  | n + 1 => (n + 1) * fac n
theorem dvd_fac : ∀ (n k : Nat), 0 < k → k ≤ n → k ∣ fac n
  | 0, k, h, h' => by omega
  | n + 1, k, h, h' => by
    by_cases e : k = n + 1
    · rw [e]; exact ⟨fac n, rfl⟩
    · exact Nat.dvd_trans (dvd_fac n k h (by omega)) ⟨n + 1, Nat.mul_comm _ _⟩
theorem Rws.low {H : Hp} {l : List VQ} (h : Ivq H l) (n : l.length ≤ 400) (b : ∀ p ∈ l, p.2.den < 100) : Rws H l := by
  refine ⟨h, n, (fac 99 : Nat), by decide +kernel, ⟨by decide +kernel⟩, fun p hp => ?_⟩
  exact Int.natCast_dvd_natCast.mpr (dvd_fac 99 _ p.2.den_pos (by have := b p hp; omega))
end HP
namespace HP
open PySem PySem.Spec PyProof.Rows L2
theorem den_le {q : Rat} {T B : Int} (hB : 0 < B) (h : q = (T : Rat) / (B : Rat)) : (q.den : Int) ≤ B := by
  have hb : (B : Rat) ≠ 0 := int_ne (by omega)
  have h1 : q * (B : Rat) = (T : Rat) := by rw [h]; grind
  have hdvd : q.den ∣ B.natAbs := by
    have hc : Nat.Coprime q.den q.num.natAbs := q.reduced.symm
    refine Nat.Coprime.dvd_of_dvd_mul_left hc ?_
    have a1 := rat_nd q
    have a2 := den_ne q
    have key : q.num * B = T * (q.den : Int) := by
      have : ((q.num * B : Int) : Rat) = ((T * (q.den : Int) : Int) : Rat) := by
        rw [Rat.intCast_mul, Rat.intCast_mul]
        grind
      exact_mod_cast this
    have := congrArg Int.natAbs key
    rw [Int.natAbs_mul, Int.natAbs_mul, Int.natAbs_natCast] at this
    exact ⟨T.natAbs, by rw [this, Nat.mul_comm]⟩
  have := Nat.le_of_dvd (by omega) hdvd
  omega
theorem srt_two {p r : VQ} : srt [p, r] = if r.2 < p.2 then [r, p] else [p, r] := by
  show insr (insr [] p) r = _
  have e : insr [] p = [p] := rfl
  rw [e]
  unfold insr
  by_cases h : r.2 < p.2
  · have e : leq r p = false := decide_eq_false (Rat.not_le.mpr h)
    rw [if_pos h, List.takeWhile_cons, List.dropWhile_cons, e]; rfl
  · have e : leq r p = true := decide_eq_true (Rat.not_lt.mp h)
    rw [if_neg h, List.takeWhile_cons, List.dropWhile_cons, e]; rfl
end HP
namespace HP
theorem div_two {W : Int} (h : 0 < W) : ((1 : Int) : Rat) / (W : Rat) < ((2 : Int) : Rat) / (W : Rat) := by
  have hw : (0 : Rat) < (W : Rat) := by exact_mod_cast h
  have h2 : (0 : Rat) < (W : Rat)⁻¹ := Rat.inv_pos.mpr hw
  rw [Rat.div_def, Rat.div_def]
  generalize (W : Rat)⁻¹ = z at h2
  have e1 : ((1 : Int) : Rat) = 1 := rfl
  have e2 : ((2 : Int) : Rat) = 2 := rfl
  rw [e1, e2]
  grind
end HP
namespace HP
open PySem PySem.Spec PyProof.Rows L2 NdefX LamX
/-! ### defs that are told by defs: the captured cells stay known -/
/-- a cell that holds v -/
def CelO (c : Addr) (v : V) : HO := .ext fun h => ∃ u, L2.RelV v u ∧ h.IsCell c (some u)
theorem celO_ok {P : Program} {w : World} {H : Hp} {h : Heap} {c : Addr} {v : V} {u : Value} (r : L2.RelV v u) (z : h.IsCell c (some u)) : ObjOk P w H h c (CelO c v) := by
  obtain ⟨o, e, d⟩ := z
  exact ⟨⟨u, r, o, e, d⟩, ⟨o, e⟩, fun h1 h2 ⟨u', r', o', e', d'⟩ k => ⟨u', r', o', k _ e', d'⟩⟩
theorem celO_at {P : Program} {w : World} {H : Hp} {h : Heap} {c : Addr} {v : V} (hok : HOk P w H h) (e : H c = some (CelO c v)) : ∃ u, L2.RelV v u ∧ h.IsCell c (some u) := by
  obtain ⟨z, _, _⟩ := (show ObjOk P w H h c (.ext fun h => ∃ u, L2.RelV v u ∧ h.IsCell c (some u)) from hok c _ e)
  exact z
def hide (H : Hp) (cs : List Addr) : Hp := fun b => if b ∈ cs then none else H b
def putb (H' : Hp) (cs : List Addr) (H : Hp) : Hp := fun b => if b ∈ cs then H b else H' b
theorem hide_in {H : Hp} {cs : List Addr} {b : Addr} (h : b ∈ cs) : hide H cs b = none := if_pos h
theorem hide_out {H : Hp} {cs : List Addr} {b : Addr} (h : b ∉ cs) : hide H cs b = H b := if_neg h
theorem putb_in {H H' : Hp} {cs : List Addr} {b : Addr} (h : b ∈ cs) : putb H' cs H b = H b := if_pos h
theorem putb_out {H H' : Hp} {cs : List Addr} {b : Addr} (h : b ∉ cs) : putb H' cs H b = H' b := if_neg h
/-- what lies at each of them is some ext -/
def Exts (H : Hp) (cs : List Addr) : Prop := ∀ c ∈ cs, ∃ φ, H c = some (.ext φ)
section
variable {P : Program} {w : World} {K : PySem.W.Frag} {mg : Str → Option Value} {base : Heap} {H H' : Hp} {h h' : Heap} {cs : List Addr}
theorem exts_ne (x : Exts H cs) {b : Addr} {o : HO} (e : H b = some o) (n : ∀ φ, o ≠ .ext φ) : b ∉ cs := fun hb => by
  obtain ⟨φ, q⟩ := x b hb
  rw [e] at q
  exact n φ (Option.some.inj q)
theorem hide_ok (x : Exts H cs) (ok : HOk P w H h) : HOk P w (hide H cs) h := fun b u e => by
  by_cases hb : b ∈ cs
  · rw [hide_in hb] at e
    cases e
  · rw [hide_out hb] at e
    refine (ok b u e).stay (fun c v _ q => q) (fun c q => ?_) (fun c xs q => ?_)
    · rw [hide_out (exts_ne x q (fun φ z => by cases z))]
      exact q
    · rw [hide_out (exts_ne x q (fun φ z => by cases z))]
      exact q
theorem putb_ok (x : Exts H cs) (ok : HOk P w H h) (ok' : HOk P w H' h') (k : ∀ c ∈ cs, ∀ o, h.get? c = some o → h'.get? c = some o) (f : ∀ c ∈ cs, H' c = none) : HOk P w (putb H' cs H) h' := fun b u e => by
  by_cases hb : b ∈ cs
  · rw [putb_in hb] at e
    obtain ⟨φ, q⟩ := x b hb
    rw [e] at q
    cases q
    obtain ⟨p, ⟨o, eo⟩, st⟩ := (show ObjOk P w H h b (.ext φ) from ok b _ e)
    exact ⟨st _ _ p fun o q => k b hb o q, ⟨o, k b hb o eo⟩, st⟩
  · rw [putb_out hb] at e
    refine (ok' b u e).stay (fun c v _ q => q) (fun c q => ?_) (fun c xs q => ?_)
    · rw [putb_out (fun z => by rw [f c z] at q; cases q)]
      exact q
    · rw [putb_out (fun z => by rw [f c z] at q; cases q)]
      exact q
theorem putb_un {fs : List Addr} (x : Exts H cs) (ok : HOk P w H h) (u : Un fs [] (hide H cs) H' h h') : Un fs [] H (putb H' cs H) h h' where
  keep := fun b o e n hb hx => u.keep b o e (by
    by_cases hc : b ∈ cs
    · exact hide_in hc
    · rw [hide_out hc]
      exact n) hb hx
  slot := fun b o e n hb hx => u.slot b o e (by
    by_cases hc : b ∈ cs
    · exact hide_in hc
    · rw [hide_out hc]
      exact n) hb hx
  free := fun b o e n hx => by
    by_cases hc : b ∈ cs
    · rw [putb_in hc]
      exact n
    · rw [putb_out hc]
      exact u.free b o e (by rw [hide_out hc]; exact n) hx
  there := fun b o e hx => u.there b o e hx
  tups := fun b xs e => by
    have hc := exts_ne x e (fun φ z => by cases z)
    rw [putb_out hc]
    exact u.tups b xs (by rw [hide_out hc]; exact e)
  frzs := fun b o v e => by
    have hc := exts_ne x e (fun φ z => by cases z)
    rw [putb_out hc]
    exact u.frzs b o v (by rw [hide_out hc]; exact e)
  tbls := fun b ps e => by
    have hc := exts_ne x e (fun φ z => by cases z)
    rw [putb_out hc]
    exact u.tbls b ps (by rw [hide_out hc]; exact e)
/-- the closure F with its cells, the captured names' values ws -/
structure CloAt (F : NF) (fr : List Str) (ws : List (Option V)) (H : Hp) : Prop where
  len : ws.length = fr.length
  all : ∀ y c, F.cl.lookup y = some c → ∃ v, H c = some (CelO c v)
  inj : ∀ x y c, F.cl.lookup x = some c → F.cl.lookup y = some c → x = y
  has : ∀ (i : Nat) (y : Str), fr[i]? = some y → ∃ c, F.cl.lookup y = some c ∧ ∀ v, ws[i]? = some (some v) → H c = some (CelO c v)
/-- the addresses of its cells -/
def celsOf (F : NF) : List Addr := (F.cl.filter fun p => F.cl.lookup p.1 == some p.2).map (·.2)
theorem cels_mem {F : NF} {c : Addr} : c ∈ celsOf F ↔ ∃ y, F.cl.lookup y = some c := by
  unfold celsOf
  constructor
  · intro h
    obtain ⟨p, hp, e⟩ := List.mem_map.mp h
    obtain ⟨_, h2⟩ := List.mem_filter.mp hp
    exact ⟨p.1, by rw [← e]; exact eq_of_beq h2⟩
  · rintro ⟨y, e⟩
    exact List.mem_map.mpr ⟨(y, c), List.mem_filter.mpr ⟨PySem.mem_of_lookup e, by simp [e]⟩, rfl⟩
theorem CloAt.exts {F : NF} {fr : List Str} {ws : List (Option V)} (C : CloAt F fr ws H) : Exts H (celsOf F) := fun c hc => by
  obtain ⟨y, e⟩ := cels_mem.mp hc
  obtain ⟨v, z⟩ := C.all y c e
  exact ⟨_, z⟩
theorem CloAt.cells {F : NF} {fr : List Str} {ws : List (Option V)} (C : CloAt F fr ws H) (ok : HOk P w H h) : CellsAt F.cl fr ws h (hide H (celsOf F)) where
  len := C.len
  all := fun y c e => by
    obtain ⟨v, z⟩ := C.all y c e
    obtain ⟨u, _, q⟩ := celO_at ok z
    exact ⟨hide_in (cels_mem.mpr ⟨y, e⟩), _, q⟩
  inj := C.inj
  has := fun i y e => by
    obtain ⟨c, e1, e2⟩ := C.has i y e
    exact ⟨c, e1, fun v ev => celO_at ok (e2 v ev)⟩
/-- no function, no code object lies at a cell -/
theorem CloAt.fn {F : NF} {fr : List Str} {ws : List (Option V)} {f : Addr} {G : NF} (C : CloAt F fr ws H) (ok : HOk P w H h) (e : H f = some (FnO f G)) : f ∉ celsOf F := fun hc => by
  obtain ⟨y, ey⟩ := cels_mem.mp hc
  obtain ⟨v, z⟩ := C.all y f ey
  obtain ⟨u, _, o, h1, h2⟩ := celO_at ok z
  obtain ⟨od, sl, doc, pm, ctv, h3⟩ := fnO_at ok e
  rw [h1] at h3
  cases h3
  cases h2
theorem CloAt.code {F : NF} {fr : List Str} {ws : List (Option V)} {c : Addr} {q : Str} (C : CloAt F fr ws H) (ok : HOk P w H h) (e : H c = some (CodeO c q)) : c ∉ celsOf F := fun hc => by
  obtain ⟨y, ey⟩ := cels_mem.mp hc
  obtain ⟨v, z⟩ := C.all y c ey
  obtain ⟨u, _, o, h1, h2⟩ := celO_at ok z
  obtain ⟨c2, oc, vs, t, e2, hoc, hd, hv⟩ := codeO_at ok e
  cases e2
  rw [h1] at hoc
  cases hoc
  rw [h2] at hd
  cases hd
/-- a closure is called: in the heap without its cells, which are put back behind -/
theorem run_clo {k : Nat} {f : Addr} {F : NF} {ps fr : List Str} {sp : List (Option V) → Sp} (n : NOk P w K mg base CX0 k f F ps fr sp) {A : Around} {outer : List Env} {s : Shared} {us : List Value} {vs : List V} {ws : List (Option V)} {Q : VK}
    (hr : Room k A) (e0 : Env0 P w K mg base A outer s H) (hf : H f = some (FnO f F)) (hc : H F.c = some (CodeO F.c F.qual)) (C : CloAt F fr ws H) (r : Vals vs us) (q : sp ws vs (hide H (celsOf F)) (fun v H' => (∀ c ∈ celsOf F, H' c = none) → Q v (putb H' (celsOf F) H)) E0) :
    codeAny (model P w) A (.call (.ref f) ⟨us, []⟩) (CR CX0 outer P w H s Q E0) s := by
  have X := C.exts
  have nin : ∀ b ∈ frs outer, b ∉ celsOf F := fun b hb hc => by
    obtain ⟨φ, z⟩ := X b hc
    rw [e0.frf b hb] at z
    cases z
  have e1 : Env0 P w K mg base A outer s (hide H (celsOf F)) := ⟨e0.frames, e0.mod, fun b o e => ⟨(e0.bs b o e).1, by
    by_cases hb : b ∈ celsOf F
    · exact hide_in hb
    · rw [hide_out hb]
      exact (e0.bs b o e).2⟩, e0.bsz, e0.funs, fun b hb => by rw [hide_out (nin b hb)]; exact e0.frf b hb, hide_ok X e0.hok, e0.bare⟩
  refine codeAny_mono (n.run A outer s _ us vs ws _ E0 hr e1 (by rw [hide_out (C.fn e0.hok hf)]; exact hf) (by rw [hide_out (C.code e0.hok hc)]; exact hc) (C.cells e0.hok) r q) fun res s' hq => ?_
  match res, hq with
  | .error er, hq => exact hq
  | .ok .next, hq => exact hq
  | .ok .brk, hq => exact hq
  | .ok .cont, hq => exact hq
  | .ok (.ret u), hq =>
    obtain ⟨v, H', os, bare, un, hok, rv, z⟩ := hq
    have kc : ∀ c ∈ celsOf F, (∀ o, s.heap.get? c = some o → s'.heap.get? c = some o) ∧ H' c = none := fun c hc => by
      obtain ⟨φ, e⟩ := X c hc
      obtain ⟨_, ⟨o, eo⟩, _⟩ := (show ObjOk P w H s.heap c (.ext φ) from e0.hok c _ e)
      refine ⟨fun o e => un.keep c o e (hide_in hc) (fun z => nin c z hc) List.not_mem_nil, un.free c o eo (hide_in hc) List.not_mem_nil⟩
    exact ⟨v, _, os, bare, putb_un X e0.hok un, putb_ok X e0.hok hok (fun c hc => (kc c hc).1) (fun c hc => (kc c hc).2), rv, z fun c hc => (kc c hc).2⟩
end
end HP
namespace HP
open PySem PySem.Spec PyProof.Rows L2 NdefX LamX
/-- the heap H1 with the cells of cl tracked, by what is known of them -/
noncomputable def trk (cl : List (Str × Addr)) (fr : List Str) (ws : List (Option V)) (H1 : Hp) : Hp := fun b =>
  open Classical in if h : ∃ v, ∃ (n : Nat) (y : Str), fr[n]? = some y ∧ cl.lookup y = some b ∧ ws[n]? = some (some v) then some (CelO b h.choose) else H1 b
theorem trk_out {cl : List (Str × Addr)} {fr : List Str} {ws : List (Option V)} {H1 : Hp} {b : Addr} (h : ∀ y, cl.lookup y ≠ some b) : trk cl fr ws H1 b = H1 b := by
  unfold trk
  rw [dif_neg]
  rintro ⟨v, n, y, _, e, _⟩
  exact h y e
theorem trk_in {cl : List (Str × Addr)} {fr : List Str} {ws : List (Option V)} {H1 : Hp} {b : Addr} {v : V} {n : Nat} {y : Str} (nd : fr.Nodup) (inj : ∀ x y c, cl.lookup x = some c → cl.lookup y = some c → x = y) (h1 : fr[n]? = some y) (h2 : cl.lookup y = some b) (h3 : ws[n]? = some (some v)) : trk cl fr ws H1 b = some (CelO b v) := by
  have h : ∃ v, ∃ (n : Nat) (y : Str), fr[n]? = some y ∧ cl.lookup y = some b ∧ ws[n]? = some (some v) := ⟨v, n, y, h1, h2, h3⟩
  unfold trk
  rw [dif_pos h]
  obtain ⟨n', y', e1, e2, e3⟩ := h.choose_spec
  have ey : y' = y := inj _ _ _ e2 h2
  subst ey
  have en : n' = n := by
    obtain ⟨l1, g1⟩ := List.getElem?_eq_some_iff.mp e1
    obtain ⟨l2, g2⟩ := List.getElem?_eq_some_iff.mp h1
    exact (List.getElem_inj nd).mp (g1.trans g2.symm)
  rw [en, h3] at e3
  have := Option.some.inj (Option.some.inj e3)
  rw [← this]
section
variable {X : Cx}
theorem clo_end {T : List NTab} {mk : Addr → NF} {i : Nat} {g : Str} {nd : Stmt} {p pos : Pos} {fr : List Str} {js : List Nat} {pins : List (Addr × Obj)} {s : Shared} {σ : L2.St} {H : Hp} {Q : VK}
    (hnd : PS X nd (tNdef T i mk)) (hN : X.N[i]? = some g) (hv : Vis X.env.scope g) (hg1 : (g == ("__debug__" : Str)) = false) (hg2 : (g == ("__classdict__" : Str)) = false)
    (cp : X.Ok → ∀ c', Caps X (mk c').cl fr js) (hfn : ∀ c' y c, (mk c').cl.lookup y = some c → X.fn y = true) (hcov : ∀ c' y c, (mk c').cl.lookup y = some c → y ∈ fr) (ndf : fr.Nodup)
    (hex : X.ex = []) (hfs : X.fs = frs X.outer) (hij : i ∉ js) (hval : ∀ j ∈ js, ∃ v, slotAt σ j = some v) (I : Inv X pins σ H s) (hT : TabsN T H)
    (h : ∀ (f c' : Addr) (H1 H2 : Hp), ExtN H H1 → TabsN T H1 → H f = none → H1 f = some (FnO f (mk c')) → H1 c' = some (CodeO c' (mk c').qual) → (∀ b, (∀ y, (mk c').cl.lookup y ≠ some b) → H2 b = H1 b) → (∀ y b, (mk c').cl.lookup y = some b → H1 b = none) → CloAt (mk c') fr (js.map (slotAt σ)) H2 → Q (.ref f) H2) :
    wpAny (model X.prog X.w) X.A (execs [nd, .Return (some (.Name g p)) pos] X.env) (fun fl s' => ∃ u, fl = .ret u ∧ CE X.outer X.prog X.w X.H_0 X.s_0 Q u s') X.xe s := by
  refine wpAny_execs_cons (thn (hnd.run pins s σ H { nx := fun σ' H' => ∃ f c', σ' = σ.set i (some (.ref f)) ∧ ExtN H H' ∧ TabsN T H' ∧ H f = none ∧ H' f = some (FnO f (mk c')) ∧ H' c' = some (CodeO c' (mk c').qual), rt := fun _ _ => False, bk := fun _ _ => False, ct := fun _ _ => False } I ⟨hT, fun f c' H1 a1 a2 a3 a4 a5 => ⟨f, c', rfl, a1, a2, a3, a4, a5⟩⟩) fun fl s1 q => ?_)
  match fl, q with
  | .ret u, q =>
    obtain ⟨_, _, _, _, _, z⟩ := q
    exact z.elim
  | .brk, q =>
    obtain ⟨_, _, _, z⟩ := q
    exact z.elim
  | .cont, q =>
    obtain ⟨_, _, _, z⟩ := q
    exact z.elim
  | .next, q =>
    obtain ⟨σ', H1, I1, f, c', rfl, eN, T1, f0, f1, c1⟩ := q
    have hlen : i < σ.length := by
      rw [I.len]
      exact (List.getElem?_eq_some_iff.mp hN).1
    refine wpAny_execs_cons (wpAny_Return_some (thn ((pe_var (pos := p) hN hv hg1 hg2).run pins s1 _ H1 (fun v H' => v = .ref f ∧ H' = H1) I1 ⟨.ref f, by rw [List.getElem?_set_self hlen], rfl, rfl⟩) fun u s2 ⟨v, H', I2, rv, ev, eH⟩ => ?_))
    subst ev
    subst eH
    have hmap : js.map (slotAt (σ.set i (some (.ref f)))) = js.map (slotAt σ) := by
      refine List.map_congr_left fun j hj => ?_
      unfold NdefX.slotAt
      rw [List.getElem?_set_ne (fun z => hij (by rw [z]; exact hj))]
    have CA := cells_of I2 (cp I2.ok c')
    rw [hmap] at CA
    have fc : ∀ y b, (mk c').cl.lookup y = some b → H' b = none := fun y b e => (CA.all y b e).1
    have CL : CloAt (mk c') fr (js.map (slotAt σ)) (trk (mk c').cl fr (js.map (slotAt σ)) H') := by
      have val : ∀ (n : Nat) (y : Str), fr[n]? = some y → ∃ v, (js.map (slotAt σ))[n]? = some (some v) := fun n y e => by
        have hl : n < (js.map (slotAt σ)).length := by
          rw [CA.len]
          exact (List.getElem?_eq_some_iff.mp e).1
        rw [List.length_map] at hl
        obtain ⟨v, ev⟩ := hval js[n] (List.getElem_mem hl)
        exact ⟨v, by rw [List.getElem?_map, List.getElem?_eq_getElem hl, Option.map_some, ev]⟩
      refine ⟨CA.len, fun y c e => ?_, CA.inj, fun n y e => ?_⟩
      · obtain ⟨n, hn⟩ := List.mem_iff_getElem?.mp (hcov c' y c e)
        obtain ⟨v, ev⟩ := val n y hn
        exact ⟨v, trk_in ndf CA.inj hn e ev⟩
      · obtain ⟨c, e1, _⟩ := CA.has n y e
        exact ⟨c, e1, fun v ev => trk_in ndf CA.inj e e1 ev⟩
    have newc : ∀ y b, (mk c').cl.lookup y = some b → X.s_0.heap.get? b = none := fun y b e => by
      have hb := I2.ok.cab y b (hfn c' y b e) ((cp I2.ok c').sub y b e)
      cases q : X.s_0.heap.get? b with
      | none => rfl
      | some o => exact absurd (Nat.lt_of_lt_of_le (Heap.lt_size q) hb) (Nat.lt_irrefl _)
    have isc : ∀ b, (∀ y, (mk c').cl.lookup y ≠ some b) ∨ ∃ y, (mk c').cl.lookup y = some b := fun b => by
      by_cases z : ∃ y, (mk c').cl.lookup y = some b
      · exact .inr z
      · exact .inl fun y e => z ⟨y, e⟩
    have out : ∀ b u, H' b = some u → trk (mk c').cl fr (js.map (slotAt σ)) H' b = some u := fun b u e => by
      rw [trk_out (fun y ey => by rw [fc y b ey] at e; cases e)]
      exact e
    have B := I2.base
    rw [hex] at B
    refine ⟨u, rfl, .ref f, trk (mk c').cl fr (js.map (slotAt σ)) H', I2.os, I2.bare, ?_, ?_, rv, h f c' H' _ eN T1 f0 f1 c1 (fun b hb => trk_out hb) fc CL⟩
    · rw [← hfs]
      refine ⟨B.keep, B.slot, fun b o e n hx => ?_, B.there, fun b xs e => out _ _ (B.tups b xs e), fun b o v e => out _ _ (B.frzs b o v e), fun b ps e => ?_⟩
      · rcases isc b with z | ⟨y, z⟩
        · rw [trk_out z]
          exact B.free b o e n hx
        · rw [newc y b z] at e
          cases e
      · obtain ⟨more, z⟩ := B.tbls b ps e
        exact ⟨more, out _ _ z⟩
    · intro b o e
      rcases isc b with z | ⟨y, z⟩
      · rw [trk_out z] at e
        exact (I2.hok b o e).stay (fun c v _ q => q) (fun c q => out _ _ q) (fun c xs q => out _ _ q)
      · obtain ⟨n, hn⟩ := List.mem_iff_getElem?.mp (hcov c' y b z)
        obtain ⟨c, ec, hu⟩ := CA.has n y hn
        rw [z] at ec
        cases ec
        obtain ⟨c2, ec2, hw⟩ := CL.has n y hn
        rw [z] at ec2
        cases ec2
        have hl : n < js.length := by
          have := CA.len
          rw [List.length_map] at this
          rw [this]
          exact (List.getElem?_eq_some_iff.mp hn).1
        obtain ⟨v, ev⟩ := hval js[n] (List.getElem_mem hl)
        have ew : (js.map (slotAt σ))[n]? = some (some v) := by rw [List.getElem?_map, List.getElem?_eq_getElem hl, Option.map_some, ev]
        rw [hw v ew] at e
        cases e
        obtain ⟨u', r', z'⟩ := hu v ew
        exact celO_ok r' z'
end
end HP
namespace HP
open PySem PySem.Spec PyProof.Rows L2 NdefX LamX
/-- a block that ends by telling u -/
structure PSR (X : Cx) (st : List Stmt) (Q : VK) (t : L2.St → Hp → Prop) : Prop where
  run : ∀ (pins : List (Addr × Obj)) (s : Shared) (σ : L2.St) (H : Hp), Inv X pins σ H s → t σ H → wpAny (model X.prog X.w) X.A (execs st X.env) (fun fl s' => ∃ u, fl = .ret u ∧ CE X.outer X.prog X.w X.H_0 X.s_0 Q u s') X.xe s
def tSeqR (t : TS) (u : L2.St → Hp → Prop) : L2.St → Hp → Prop := fun σ H => t { nx := u, rt := fun _ _ => False, bk := fun _ _ => False, ct := fun _ _ => False } σ H
def tEndR (T : List NTab) (i : Nat) (mk : Addr → NF) (fr : List Str) (js : List Nat) (Q : VK) : L2.St → Hp → Prop := fun σ H => (∀ j ∈ js, ∃ v, NdefX.slotAt σ j = some v) ∧ TabsN T H ∧ ∀ (f c' : Addr) (H1 H2 : Hp), ExtN H H1 → TabsN T H1 → H f = none → H1 f = some (FnO f (mk c')) → H1 c' = some (CodeO c' (mk c').qual) → (∀ b, (∀ y, (mk c').cl.lookup y ≠ some b) → H2 b = H1 b) → (∀ y b, (mk c').cl.lookup y = some b → H1 b = none) → CloAt (mk c') fr (js.map (NdefX.slotAt σ)) H2 → Q (.ref f) H2
section
variable {X : Cx} {st : Stmt} {rest : List Stmt} {t : TS} {u : L2.St → Hp → Prop} {Q : VK}
theorem psr_cons (h1 : PS X st t) (h2 : PSR X rest Q u) : PSR X (st :: rest) Q (tSeqR t u) := by
  refine ⟨fun pins s σ H I h => ?_⟩
  refine wpAny_execs_cons (thn (h1.run pins s σ H _ I h) fun fl s1 q => ?_)
  match fl, q with
  | .next, q =>
    obtain ⟨σ', H', I', q⟩ := q
    exact h2.run pins s1 σ' H' I' q
  | .ret v, q =>
    obtain ⟨_, _, _, _, _, z⟩ := q
    exact z.elim
  | .brk, q =>
    obtain ⟨_, _, _, z⟩ := q
    exact z.elim
  | .cont, q =>
    obtain ⟨_, _, _, z⟩ := q
    exact z.elim
theorem psr_end {T : List NTab} {mk : Addr → NF} {i : Nat} {g : Str} {nd : Stmt} {p pos : Pos} {fr : List Str} {js : List Nat}
    (hnd : PS X nd (tNdef T i mk)) (hN : X.N[i]? = some g) (hv : Vis X.env.scope g) (hg1 : (g == ("__debug__" : Str)) = false) (hg2 : (g == ("__classdict__" : Str)) = false)
    (cp : X.Ok → ∀ c', Caps X (mk c').cl fr js) (hfn : ∀ c' y c, (mk c').cl.lookup y = some c → X.fn y = true) (hcov : ∀ c' y c, (mk c').cl.lookup y = some c → y ∈ fr) (ndf : fr.Nodup)
    (hex : X.ex = []) (hfs : X.fs = frs X.outer) (hij : i ∉ js) : PSR X [nd, .Return (some (.Name g p)) pos] Q (tEndR T i mk fr js Q) :=
  ⟨fun pins s σ H I ⟨h1, h2, h3⟩ => clo_end hnd hN hv hg1 hg2 cp hfn hcov ndf hex hfs hij h1 I h2 h3⟩
end
section
variable {P : Program} {w : World} {K : PySem.W.Frag} {mg : Str → Option Value} {base : Heap}
/-- a def that ends by telling a def of its own -/
theorem fnClo {x : Str} {st : Stmt} {f : Addr} {fd : FuncData} {N ps : List Str} {k : Nat} {sp : Sp} (F : Fun K x x st f fd) (S : FnScope N ps (defScope st))
    (hb : ∀ (cdv : Value) (A : Around) (fs : List Env) (s : Shared) (H : Hp) (vs : List V) (Q : VK) (E : XK), Room k (A.deeper (envOfC x (defScope st) s.heap.objs.size f cdv)) → sp vs H Q E →
      ∃ t, PSR (cxOf CX0 P w K mg base N x (defScope st) f cdv A fs s H E).nox (defBody st) Q t ∧ t (start N vs) H) : FnOk P w K mg base CX0 (k + 1) f fd ps (spN ps.length sp) := by
  obtain ⟨oc, od, kV, doc, pm, an, cdv, ct, osl, rfl, lk, hcd⟩ := F.ex
  refine ⟨fun _ _ _ _ h => h.1, ?_⟩
  intro A fs s H ar us vs Q E hroom env0 bnd rel want
  have inK : K.In s.heap := env0.mod.kin.keeps (fun b o e => (env0.bs b o e).1)
  have noLim : s.heap.NoLimit := env0.mod.nolimit.keeps (fun b o e => (env0.bs b o e).1)
  have params : ∀ y ∈ ps.zip us, (defScope st).names.lookup y.1 = some .local ∨ ((defScope st).names.lookup y.1 = some .cell ∧ ((cellsFrom (s.heap.objs.size + 1) (defScope st).names []).lookup y.1).isSome = true) := by
    rintro ⟨nm, v⟩ hy
    cases S.par nm (List.of_mem_zip hy).1 with
    | inl q => exact Or.inl q
    | inr q => exact Or.inr ⟨q, PySem.W.cellsFrom_some _ _ _ (Or.inl q)⟩
  refine codeAny_call_function hroom.depth (inK _ _ lk) rfl S.co S.gen rfl (PySem.W.codeRec_of inK hcd) (bnd _ _ _ _ ?_)
  refine wpAny_newFunctionEnv_cells S.kind params (fun env eqn s1 inCall => ?_)
  subst eqn
  refine ⟨noLim.keeps inCall.toInCall.keep, codeAny_func ?_⟩
  obtain ⟨t, body, goal⟩ := hb cdv A fs s H vs Q E (hroom.deeper _) want.2
  have J : Inv (cxOf CX0 P w K mg base N x (defScope st) f cdv A fs s H E) [] (start N vs) H s1 := inv_start S hroom.hd env0 want.1 rel inCall
  refine wpAny_mono (body.run [] s1 (start N vs) H (J.wish _) goal) ?_ (fun e s' z => ?_)
  · rintro fl s2 ⟨u, rfl, done⟩
    exact done
  · exact (show False from z).elim
end
end HP
namespace HP
open PySem PySem.Spec PyProof.Rows L2 NdefX LamX
/-- a def that is held as a value: what it does, whichever def it is -/
structure DeedAt (P : Program) (w : World) (K : PySem.W.Frag) (mg : Str → Option Value) (base : Heap) (k : Nat) (H : Hp) (f : Addr) (sp : Sp) : Prop where
  fn : ∀ h, K.In h → HOk P w H h → PySem.W.FnAt f h
  run : ∀ (A : Around) (outer : List Env) (s : Shared) (us : List Value) (vs : List V) (Q : VK), Room k A → Env0 P w K mg base A outer s H → Vals vs us → sp vs H Q E0 → codeAny (model P w) A (.call (.ref f) ⟨us, []⟩) (CR CX0 outer P w H s Q E0) s
section
variable {P : Program} {w : World} {K : PySem.W.Frag} {mg : Str → Option Value} {base : Heap}
/-- a def of the top, held as a value -/
theorem deed_top {x : Str} {st : Stmt} {f : Addr} {fd : FuncData} {ps : List Str} {k : Nat} {sp : Sp} {H : Hp} (n : FnOk P w K mg base CX0 k f fd ps (spN ps.length sp)) (F : Fun K x x st f fd) (hb : Binds K fd ps []) : DeedAt P w K mg base k H f (spN ps.length sp) := by
  obtain ⟨oc, od, kV, doc, pm, an, cdv, ct, osl, e, lk, hcd⟩ := F.ex
  refine ⟨fun h X _ => ⟨_, _, _, _, X _ _ lk⟩, fun A outer s us vs Q hr e0 r q => ?_⟩
  have X : K.In s.heap := e0.mod.kin.keeps (fun b o e => (e0.bs b o e).1)
  exact n.run A outer s H ⟨us, []⟩ us vs Q E0 hr e0 (by
    have z := hb s us X (by rw [List.append_nil]; exact r.length.symm.trans q.1)
    rw [List.append_nil] at z
    exact z) r q
/-- a def made within another one, held as a value -/
theorem deed_clo {k : Nat} {f : Addr} {F : NF} {ps fr : List Str} {sp : List (Option V) → Sp} {ws : List (Option V)} {H : Hp} (n : NOk P w K mg base CX0 k f F ps fr sp) (hf : H f = some (FnO f F)) (hc : H F.c = some (CodeO F.c F.qual)) (C : CloAt F fr ws H) :
    DeedAt P w K mg base k H f (fun vs _ Q _ => sp ws vs (hide H (celsOf F)) (fun v H' => (∀ c ∈ celsOf F, H' c = none) → Q v (putb H' (celsOf F) H)) E0) :=
  ⟨fun h X ok => by
    obtain ⟨od, sl, doc, pm, ctv, ho⟩ := fnO_at ok hf
    exact ⟨_, od, _, sl, ho⟩, fun A outer s us vs Q hr e0 r q => run_clo n hr e0 hf hc C r q⟩
theorem DeedAt.imp {k : Nat} {H : Hp} {f : Addr} {sp sp' : Sp} (d : DeedAt P w K mg base k H f sp) (h : ∀ vs Q E, sp' vs H Q E → sp vs H Q E) : DeedAt P w K mg base k H f sp' := ⟨d.fn, fun A outer s us vs Q hr e0 r q => d.run A outer s us vs Q hr e0 r (h _ _ _ q)⟩
end
def tCallD (P : Program) (w : World) (K : PySem.W.Frag) (mg : Str → Option Value) (base : Heap) (k : Nat) (i : Nat) (sp : Sp) (t : TA) : TE := fun σ H Q => ∃ f, σ[i]? = some (some (.ref f)) ∧ (∀ h, K.In h → HOk P w H h → PySem.W.FnAt f h) ∧ t σ H fun vs H1 => DeedAt P w K mg base k H1 f sp ∧ sp vs H1 Q E0
section
variable {X : Cx} {k j i : Nat} {x : Str} {sp : Sp} {p pos : Pos} {e : Expr} {es : List Expr} {t : TA}
theorem pe_callD (hr : Room j X.A) (hk : k ≤ j) (hN : X.N[i]? = some x) (hv : Vis X.env.scope x) (ha : PA X (e :: es) t)
    (hd : (x == ("__debug__" : Str)) = false := by decide) (hcd : (x == ("__classdict__" : Str)) = false := by decide)
    (he : starEach (e :: es) X.env = (false, eval e X.env) :: starEach es X.env := by rfl) (hpl : (backTo pos (starEach es X.env)).any (·.1) = false := by rfl) :
    PE X (.Call (.Name x p) (e :: es) [] pos) (tCallD X.prog X.w X.K X.mg X.base k i sp t) := by
  refine ⟨fun pins s σ H Q I h => ?_⟩
  obtain ⟨f, hs, hf, ht⟩ := h
  refine wpAny_Call_Name_kw (thn ((pe_var (pos := p) hN hv hd hcd).run pins s σ H (fun v H1 => v = .ref f ∧ H1 = H) I ⟨.ref f, hs, rfl, rfl⟩) fun u s1 ⟨v, H1, I1, r1, q1⟩ => ?_)
  obtain ⟨ev, eH⟩ := q1
  subst ev
  rw [eH] at I1
  obtain rfl : u = Value.ref f := r1
  refine PySem.W.callWith_F (first := []) (hf _ I1.kIn I1.hok) (thn (ha.run pos pins s1 σ H _ I1 ht) fun us s2 ⟨vs, H2, I2, r, d, q⟩ => ⟨d.fn _ I2.kIn I2.hok, ?_⟩) he hpl
  show wpAny _ _ (call (.ref f) us) _ _ _
  refine wpAny_call (codeAny_mono (d.run X.A X.stack s2 us vs Q (hr.mono hk) I2.env0 r q) fun res s' hq => ?_)
  match res, hq with
  | .error er, hq => exact False.elim hq
  | .ok (.ret u), hq => exact I2.after hq
  | .ok .next, hq => exact False.elim hq
  | .ok .brk, hq => exact False.elim hq
  | .ok .cont, hq => exact False.elim hq
end
end HP
namespace HP
open PySem PySem.Spec PyProof.Rows L2 NdefX LamX
/-! ### frames where tables of code may grow -/
/-- all but the box at bx and the tables stays -/
def GoN (bx : Addr) (H H' : Hp) : Prop := ∀ b o, H b = some o → (∀ ps, o ≠ .tbl ps) → b ≠ bx → H' b = some o
theorem GoN.refl {bx : Addr} (H : Hp) : GoN bx H H := fun _ _ h _ _ => h
theorem GoN.trans {bx : Addr} {H H1 H2 : Hp} (a : GoN bx H H1) (b : GoN bx H1 H2) : GoN bx H H2 := fun c o h t n => b c o (a c o h t n) t n
theorem GoN.go {bx : Addr} {H H' : Hp} (s : Go bx H H') : GoN bx H H' := fun b o h _ n => s b o h n
theorem GoN.same {bx : Addr} {H H' : Hp} (s : Same H H') : GoN bx H H' := fun b o h _ _ => s b o h
theorem GoN.ext {bx : Addr} {H H' : Hp} (s : ExtN H H') : GoN bx H H' := fun b o h t _ => s b o h t
theorem TabsN.same {T : List NTab} {H H' : Hp} (t : TabsN T H) (s : Same H H') : TabsN T H' := t.ext s
/-- a table isn't the box -/
theorem TabsN.go {T : List NTab} {H H' : Hp} {bx : Addr} {n : Int} (t : TabsN T H) (B : Box H bx n) (g : Go bx H H') : TabsN T H' := fun p hp => by
  obtain ⟨ps, h1, h2, h3⟩ := t p hp
  obtain ⟨x, y, z, hb, _⟩ := B
  refine ⟨ps, g _ _ h1 (fun e => by rw [e, hb] at h1; cases h1), h2, fun pos cv hc => ?_⟩
  obtain ⟨c, e1, e2⟩ := h3 pos cv hc
  exact ⟨c, e1, g _ _ e2 (fun e => by rw [e, hb] at e2; cases e2)⟩
theorem NQ.gon {H H' : Hp} {v : V} {q : Rat} {bx : Addr} {n : Int} (h : NQ H v q) (B : Box H bx n) (g : GoN bx H H') : NQ H' v q := by
  rcases h with ⟨h1, h2⟩ | ⟨a, h1, h2, h3⟩
  · exact .inl ⟨h1, h2⟩
  · exact .inr ⟨a, h1, g _ _ h2 (fun _ z => by cases z) (B.ne h2), h3⟩
theorem NQ.extn {H H' : Hp} {v : V} {q : Rat} (h : NQ H v q) (g : ExtN H H') : NQ H' v q := by
  rcases h with ⟨h1, h2⟩ | ⟨a, h1, h2, h3⟩
  · exact .inl ⟨h1, h2⟩
  · exact .inr ⟨a, h1, g _ _ h2 (fun _ z => by cases z), h3⟩
theorem Box.extn {H H' : Hp} {bx : Addr} {n : Int} (h : Box H bx n) (g : ExtN H H') : Box H' bx n := by
  obtain ⟨a, b, c, h1, h2⟩ := h
  exact ⟨a, b, c, g _ _ h1 (fun _ z => by cases z), h2⟩
/-! ### the made def of by_period -/
/-- st: its statement; its words -/
abbrev nf (st : Stmt) (qual : Str) (cl : List (Str × Addr)) (c : Addr) : NF := NF.of st "nearest" qual cl c
/-- the def at a rounds by s, f -/
def Nea (st : Stmt) (H : Hp) (a : Addr) (s f : Rat) : Prop := ∃ qual cl c vb vs vf, H a = some (FnO a (nf st qual cl c)) ∧ H c = some (CodeO c qual) ∧ CloAt (nf st qual cl c) ["begin", "period", "phase"] [some vb, some vs, some vf] H ∧
  NQ H vb (f - s / 2) ∧ NQ H vs s ∧ NQ H vf f ∧ 0 < s ∧ BQ 120 s ∧ BQ 130 f
theorem CloAt.ext {F : NF} {fr : List Str} {ws : List (Option V)} {H H' : Hp} (C : CloAt F fr ws H) (g : ∀ b v, H b = some (CelO b v) → H' b = some (CelO b v)) : CloAt F fr ws H' where
  len := C.len
  all := fun y c e => by
    obtain ⟨v, z⟩ := C.all y c e
    exact ⟨v, g _ _ z⟩
  inj := C.inj
  has := fun i y e => by
    obtain ⟨c, e1, e2⟩ := C.has i y e
    exact ⟨c, e1, fun v ev => g _ _ (e2 v ev)⟩
theorem Nea.gon {st : Stmt} {H H' : Hp} {a : Addr} {s f : Rat} {bx : Addr} {n : Int} (h : Nea st H a s f) (B : Box H bx n) (g : GoN bx H H') : Nea st H' a s f := by
  obtain ⟨qual, cl, c, vb, vs, vf, h1, h2, h3, h4, h5, h6, h7⟩ := h
  have nb : ∀ {b : Addr} {φ : Heap → Prop}, H b = some (.ext φ) → b ≠ bx := fun {b φ} e z => by
    obtain ⟨x, y, z', hb, _⟩ := B
    rw [z, hb] at e
    cases e
  have k : ∀ {b : Addr} {φ : Heap → Prop}, H b = some (.ext φ) → H' b = some (.ext φ) := fun {b φ} e => g _ _ e (fun _ z => by cases z) (nb e)
  exact ⟨qual, cl, c, vb, vs, vf, k h1, k h2, h3.ext fun b v e => k e, h4.gon B g, h5.gon B g, h6.gon B g, h7⟩
theorem Nea.same {st : Stmt} {H H' : Hp} {a : Addr} {s f : Rat} (h : Nea st H a s f) (g : Same H H') : Nea st H' a s f := by
  obtain ⟨qual, cl, c, vb, vs, vf, h1, h2, h3, h4, h5, h6, h7⟩ := h
  exact ⟨qual, cl, c, vb, vs, vf, g _ _ h1, g _ _ h2, h3.ext fun b v e => g _ _ e, NQ.same h4 g, NQ.same h5 g, NQ.same h6 g, h7⟩
/-- what nearest promises -/
def spNearN : List (Option V) → Sp := fun ws vs H Q _ => ∃ vb vs' vf s f x d, ws = [some vb, some vs', some vf] ∧ vs = [x] ∧ NQ H vb (f - s / 2) ∧ NQ H vs' s ∧ NQ H vf f ∧ NQ H x d ∧ 0 < s ∧ BQ 120 s ∧ BQ 130 f ∧ BQ 500 d ∧ ∀ v H', Same H H' → NQ H' v (if d < 0 then -nea s f (if d < 0 then -d else d) else nea s f (if d < 0 then -d else d)) → Q v H'
/-- .. as it is called -/
def spNearD (s f : Rat) : Sp := fun vs H Q _ => ∃ x d, vs = [x] ∧ NQ H x d ∧ BQ 500 d ∧ ∀ v H', Same H H' → NQ H' v (if d < 0 then -nea s f (if d < 0 then -d else d) else nea s f (if d < 0 then -d else d)) → Q v H'
theorem NQ.hid {H : Hp} {v : V} {q : Rat} {cs : List Addr} (h : NQ H v q) (x : Exts H cs) : NQ (hide H cs) v q := by
  rcases h with ⟨h1, h2⟩ | ⟨a, h1, h2, h3⟩
  · exact .inl ⟨h1, h2⟩
  · exact .inr ⟨a, h1, by rw [hide_out (exts_ne x h2 (fun φ z => by cases z))]; exact h2, h3⟩
theorem NQ.putb {H H' : Hp} {v : V} {q : Rat} {cs : List Addr} (h : NQ H' v q) (x : ∀ c ∈ cs, H' c = none) : NQ (putb H' cs H) v q := by
  rcases h with ⟨h1, h2⟩ | ⟨a, h1, h2, h3⟩
  · exact .inl ⟨h1, h2⟩
  · exact .inr ⟨a, h1, by rw [putb_out (fun hc => by rw [x a hc] at h2; cases h2)]; exact h2, h3⟩
theorem Same.putb {H H' : Hp} {cs : List Addr} (s : Same (hide H cs) H') : Same H (HP.putb H' cs H) := fun b o e => by
  by_cases hc : b ∈ cs
  · rw [putb_in hc]; exact e
  · rw [putb_out hc]; exact s b o (by rw [hide_out hc]; exact e)
section
variable {P : Program} {w : World} {K : PySem.W.Frag} {mg : Str → Option Value} {base : Heap}
theorem Nea.deed {st : Stmt} {k : Nat} {H : Hp} {a : Addr} {s f : Rat} (nk : ∀ a qual cl c, NOk P w K mg base CX0 k a (nf st qual cl c) ["distance"] ["begin", "period", "phase"] spNearN) (h : Nea st H a s f) : DeedAt P w K mg base k H a (spNearD s f) := by
  obtain ⟨qual, cl, c, vb, vs, vf, h1, h2, h3, h4, h5, h6, h7, h8, h9⟩ := h
  have X := h3.exts
  refine ⟨(deed_clo (nk a qual cl c) h1 h2 h3).fn, fun A outer s' us vs' Q hr e0 r q => (deed_clo (nk a qual cl c) h1 h2 h3).run A outer s' us vs' Q hr e0 r ?_⟩
  obtain ⟨x, d, rfl, N, B, q⟩ := q
  exact ⟨vb, vs, vf, s, f, x, d, rfl, rfl, h4.hid X, h5.hid X, h6.hid X, N.hid X, h7, h8, h9, B, fun v H' S Nv hn => q v _ (Same.putb S) (Nv.putb hn)⟩
end
/-- by_period -/
def spBy (st : Stmt) (T : List NTab) : Sp := fun vs H Q _ => ∃ x y s f, vs = [x, y] ∧ NQ H x s ∧ NQ H y f ∧ 0 < s ∧ 0 ≤ f ∧ f < s ∧ BQ 120 s ∧ BQ 130 f ∧ TabsN T H ∧ ∀ a H', ExtN H H' → TabsN T H' → Nea st H' a s f → Q (.ref a) H'
end HP
namespace HP
open PySem PySem.Spec PyProof.Rows L2 NdefX LamX
section
variable {P : Program} {w : World} {K : PySem.W.Frag} {mg : Str → Option Value} {base : Heap}
/-- a def with defaults that ends by telling a def of its own; cc its code object -/
theorem fnCloD {x : Str} {st : Stmt} {dvs : List V} {kws : List (Str × V)} {f cc : Addr} {fd : FuncData} {N ps : List Str} {k : Nat} {sp : Sp} (F : FunD K x x (defArgs st) (defBody st) (defScope st) dvs kws f fd) (hcc : fd.code = .ref cc) (S : FnScope N ps (defScope st))
    (hb : ∀ (A : Around) (fs : List Env) (s : Shared) (H : Hp) (vs : List V) (Q : VK) (E : XK), Room k (A.deeper (envOfC x (defScope st) s.heap.objs.size f (.ref cc))) → sp vs H Q E →
      ∃ t, PSR (cxOf CX0 P w K mg base N x (defScope st) f (.ref cc) A fs s H E).nox (defBody st) Q t ∧ t (start N vs) H) : FnOk P w K mg base CX0 (k + 1) f fd ps (spN ps.length sp) := by
  obtain ⟨oc, od, dV, kV, doc, pm, an, cdv, ct, osl, rfl, lk, hcd, _, _⟩ := F.ex
  have ec : cdv = .ref cc := hcc
  subst ec
  refine ⟨fun _ _ _ _ h => h.1, ?_⟩
  intro A fs s H ar us vs Q E hroom env0 bnd rel want
  have inK : K.In s.heap := env0.mod.kin.keeps (fun b o e => (env0.bs b o e).1)
  have noLim : s.heap.NoLimit := env0.mod.nolimit.keeps (fun b o e => (env0.bs b o e).1)
  have params : ∀ y ∈ ps.zip us, (defScope st).names.lookup y.1 = some .local ∨ ((defScope st).names.lookup y.1 = some .cell ∧ ((cellsFrom (s.heap.objs.size + 1) (defScope st).names []).lookup y.1).isSome = true) := by
    rintro ⟨nm, v⟩ hy
    cases S.par nm (List.of_mem_zip hy).1 with
    | inl q => exact Or.inl q
    | inr q => exact Or.inr ⟨q, PySem.W.cellsFrom_some _ _ _ (Or.inl q)⟩
  refine codeAny_call_function hroom.depth (inK _ _ lk) rfl S.co S.gen rfl (PySem.W.codeRec_of inK hcd) (bnd _ _ _ _ ?_)
  refine wpAny_newFunctionEnv_cells S.kind params (fun env eqn s1 inCall => ?_)
  subst eqn
  refine ⟨noLim.keeps inCall.toInCall.keep, codeAny_func ?_⟩
  obtain ⟨t, body, goal⟩ := hb A fs s H vs Q E (hroom.deeper _) want.2
  have J : Inv (cxOf CX0 P w K mg base N x (defScope st) f (.ref cc) A fs s H E) [] (start N vs) H s1 := inv_start S hroom.hd env0 want.1 rel inCall
  refine wpAny_mono (body.run [] s1 (start N vs) H (J.wish _) goal) ?_ (fun e s' z => ?_)
  · rintro fl s2 ⟨u, rfl, done⟩
    exact done
  · exact (show False from z).elim
end
end HP
namespace HP
open PySem PySem.Spec PyProof.Rows L2 NdefX LamX
theorem BQ.flq {n m : Nat} {a c : Rat} (h : BQ n a) (k : BQ m c) (hc : 0 < c) : BQ (n + m + m) (flq a c) := by
  rw [← flo_q a c hc]
  have hcn : 0 < c.num := (q_pos0 c).mp hc
  have hp : 0 < (a.den : Int) * c.num := Int.mul_pos (den_pos' a) hcn
  refine BQ.of ?_ (k.b.mono (by omega)) (by have := den_pos' c; omega)
  exact ((((h.t.mul k.b).le (fdiv_abs hp))).mul k.t)
end HP
namespace HP
open PySem PySem.Spec PyProof.Rows L2 NdefX LamX
theorem q_seqR {t : TS} {u : L2.St → Hp → Prop} {σ : L2.St} {H : Hp} (q : t { nx := u, rt := fun _ _ => False, bk := fun _ _ => False, ct := fun _ _ => False } σ H) : tSeqR t u σ H := q
theorem ext_of {T : List NTab} {H1 H2 : Hp} {F : NF} (ho : ∀ b, (∀ y, F.cl.lookup y ≠ some b) → H2 b = H1 b) (hn : ∀ y b, F.cl.lookup y = some b → H1 b = none) : Same H1 H2 := fun b o e => by
  rw [ho b (fun y z => by rw [hn y b z] at e; cases e)]
  exact e
end HP
namespace HP
open PySem PySem.Spec PyProof.Rows L2 NdefX LamX
theorem q_nxR {t : TS} {u : L2.St → Hp → Prop} {σ : L2.St} {H : Hp} {rt : VK} {bk ct : L2.St → Hp → Prop} (q : t { nx := u, rt := fun _ _ => False, bk := fun _ _ => False, ct := fun _ _ => False } σ H) : ({ nx := tSeqR t u, rt := rt, bk := bk, ct := ct } : Ends).nx σ H := q
theorem q_nxU {u : L2.St → Hp → Prop} {σ : L2.St} {H : Hp} {rt : VK} {bk ct : L2.St → Hp → Prop} (q : u σ H) : ({ nx := u, rt := rt, bk := bk, ct := ct } : Ends).nx σ H := q
end HP
namespace HP
open PySem PySem.Spec PyProof.Rows L2 NdefX LamX
/-- a list [def, period, phase] -/
def SideA (st : Stmt) (bx : Addr) (H : Hp) (h : Addr) : Prop := ∃ a s f y u, h ≠ bx ∧ H h = some (.lst [.ref a, y, u]) ∧ Nea st H a s f ∧ NQ H y s ∧ NQ H u f ∧ 0 < s ∧ BQ 120 s ∧ BQ 130 f
/-- .. or none -/
def Side (st : Stmt) (bx : Addr) (H : Hp) (v : V) : Prop := v = .non ∨ ∃ h, v = .ref h ∧ SideA st bx H h
theorem SideA.gon {st : Stmt} {H H' : Hp} {bx h : Addr} {n : Int} (x : SideA st bx H h) (B : Box H bx n) (g : GoN bx H H') : SideA st bx H' h := by
  obtain ⟨a, s, f, y, u, h1, h2, h3, h4, h5, h6⟩ := x
  exact ⟨a, s, f, y, u, h1, g _ _ h2 (fun _ z => by cases z) h1, h3.gon B g, h4.gon B g, h5.gon B g, h6⟩
theorem Side.gon {st : Stmt} {H H' : Hp} {bx : Addr} {v : V} {n : Int} (x : Side st bx H v) (B : Box H bx n) (g : GoN bx H H') : Side st bx H' v := by
  rcases x with e | ⟨h, e, x⟩
  · exact .inl e
  · exact .inr ⟨h, e, x.gon B g⟩
/-- against a new box -/
theorem Side.fresh {st : Stmt} {H : Hp} {bx bx' : Addr} {v : V} (x : Side st bx H v) (nb : H bx' = none) : Side st bx' H v := by
  rcases x with e | ⟨h, e, a, s, f, y, u, h1, h2, h3⟩
  · exact .inl e
  · exact .inr ⟨h, e, a, s, f, y, u, (fun z => by rw [z, nb] at h2; cases h2), h2, h3⟩
theorem Side.same {st : Stmt} {H H' : Hp} {bx : Addr} {v : V} (x : Side st bx H v) (g : Same H H') : Side st bx H' v := by
  rcases x with e | ⟨h, e, a, s, f, y, u, h1, h2, h3, h4, h5, h6⟩
  · exact .inl e
  · exact .inr ⟨h, e, a, s, f, y, u, h1, g _ _ h2, h3.same g, NQ.same h4 g, NQ.same h5 g, h6⟩
theorem SqL.extn {K : PySem.W.Frag} {H H' : Hp} {a : Addr} {xs : List V} (h : SqL K H a xs) (g : ExtN H H') : SqL K H' a xs := by
  rcases h with h | h
  · rcases h with h | ⟨o, h⟩
    · exact .inl (.inl (g _ _ h (fun _ z => by cases z)))
    · exact .inl (.inr ⟨o, g _ _ h (fun _ z => by cases z)⟩)
  · exact .inr h
/-- the law's promise, where tables are handed in -/
def spLawT (K : PySem.W.Frag) (T : List NTab) : Sp := fun vs H Q _ => ∃ (a : Addr) (ns : List Int), vs = [.ref a] ∧ SqL K H a (ns.map V.int) ∧ ns.length ≤ 63 ∧ TabsN T H ∧ ∀ H', Q (.bl true) H'
def spRightN (st : Stmt) : Sp := fun vs H Q _ => ∃ a x y u d s f, vs = [.ref a, x, y, u] ∧ Nea st H a s f ∧ NQ H x d ∧ NQ H y s ∧ NQ H u f ∧ 0 < s ∧ BQ 500 d ∧ BQ 120 s ∧ BQ 130 f ∧ ∀ H', Same H H' → Q (.bl true) H'
theorem nea_b {s f d : Rat} (hs : 0 < s) (B1 : BQ 500 d) (B2 : BQ 120 s) (B3 : BQ 130 f) : BQ 1150 (nea s f d) := by
  unfold nea
  have hb1 : BQ 260 (f - s / 2) := (B3.sub (B2.div (BQ.int (i := 2) (⟨by decide⟩ : Bt 2 2) (by decide)) (by decide))).mono (by decide)
  have hb3 := (B1.sub hb1).flq B2 hs
  split
  · rw [Rat.add_zero]; exact B3.mono (by decide)
  · exact (B3.add hb3).mono (by decide)
theorem abs_q (d : Rat) : ((if d.num < 0 then -d.num else d.num : Int) : Rat) / ((d.den : Int) : Rat) = if d < 0 then -d else d := by
  have e := rat_nd d
  by_cases h : d < 0
  · rw [if_pos h, if_pos ((q_neg0 d).mp h), Rat.intCast_neg]
    have := den_ne d
    grind
  · rw [if_neg h, if_neg (fun z => h ((q_neg0 d).mpr z))]
    exact e.symm
theorem abs_nn (d : Rat) : ¬ (if d < 0 then -d else d) < 0 := by
  split <;> grind
end HP
namespace HP
open PySem PySem.Spec PyProof.Rows L2 NdefX LamX
theorem GoN.put {bx o : Addr} {H H' : Hp} {z : HO} (g : GoN bx H H') (n : H o = none) : GoN bx H (upd H' o z) := fun b u e t k => by
  rw [upd_ne (ne_of_none e n)]; exact g b u e t k
theorem GoN.extn {bx : Addr} {H H' : Hp} (g : GoN bx H H') (n : H bx = none) : ExtN H H' := fun b u e t => g b u e t (ne_of_none e n)
theorem TabsN.lst {T : List NTab} {H : Hp} {o : Addr} {xs : List V} {z : HO} (t : TabsN T H) (ho : H o = some (.lst xs)) : TabsN T (upd H o z) := fun p hp => by
  obtain ⟨ps, h1, h2, h3⟩ := t p hp
  refine ⟨ps, by rw [upd_ne (fun e => by rw [e, ho] at h1; cases h1)]; exact h1, h2, fun pos cv hc => ?_⟩
  obtain ⟨c, e1, e2⟩ := h3 pos cv hc
  exact ⟨c, e1, by rw [upd_ne (fun e => by rw [e, ho] at e2; cases e2)]; exact e2⟩
theorem NQ.lstx {H : Hp} {v : V} {q : Rat} {o : Addr} {xs : List V} {z : HO} (h : NQ H v q) (ho : H o = some (.lst xs)) : NQ (upd H o z) v q := by
  rcases h with ⟨h1, h2⟩ | ⟨a, h1, ha, hb⟩
  · exact .inl ⟨h1, h2⟩
  · refine .inr ⟨a, h1, ?_, hb⟩
    rw [upd_ne]
    · exact ha
    · intro e
      rw [e, ho] at ha
      cases ha
theorem Nea.lst {st : Stmt} {H : Hp} {a o : Addr} {s f : Rat} {xs : List V} {z : HO} (h : Nea st H a s f) (ho : H o = some (.lst xs)) : Nea st (upd H o z) a s f := by
  obtain ⟨qual, cl, c, vb, vs, vf, h1, h2, h3, h4, h5, h6, h7⟩ := h
  have k : ∀ {b : Addr} {φ : Heap → Prop}, H b = some (.ext φ) → upd H o z b = some (.ext φ) := fun {b φ} e => by
    rw [upd_ne (fun e2 => by rw [e2, ho] at e; cases e)]; exact e
  exact ⟨qual, cl, c, vb, vs, vf, k h1, k h2, h3.ext fun b v e => k e, h4.lstx ho, h5.lstx ho, h6.lstx ho, h7⟩
theorem SideA.same {st : Stmt} {H H' : Hp} {bx h : Addr} (x : SideA st bx H h) (g : Same H H') : SideA st bx H' h := by
  obtain ⟨a, s, f, y, u, h1, h2, h3, h4, h5, h6⟩ := x
  exact ⟨a, s, f, y, u, h1, g _ _ h2, h3.same g, NQ.same h4 g, NQ.same h5 g, h6⟩
end HP
namespace HP
open PySem PySem.Spec PyProof.Rows L2
section
variable {P : Program} {w : World} {K : PySem.W.Frag} {mg : Str → Option Value} {base : Heap}
theorem funOf {x : Str} {st : Stmt} {f : Addr} {fd : FuncData} (F : FunD K x x (defArgs st) (defBody st) (defScope st) [] [] f fd) : Fun K x x st f fd := by
  obtain ⟨oc, od, dV, kV, doc, pm, an, cdv, ct, osl, rfl, lk, hcd, hD, _⟩ := F.ex
  rcases hD with ⟨_, rfl⟩ | ⟨e, _⟩
  · exact ⟨⟨oc, od, kV, doc, pm, an, cdv, ct, osl, rfl, lk, hcd⟩, F.kp⟩
  · exact absurd rfl e
theorem codeFd {x : Str} {st : Stmt} {dvs : List V} {kws : List (Str × V)} {p : Str × Option Str} {fd : FuncData} (F : FunD K x x (defArgs st) (defBody st) (defScope st) dvs kws (He.fAd K p) fd) : fd.code = .ref (He.codeOf K p) := by
  obtain ⟨oc, od, dV, kV, doc, pm, an, cdv, ct, osl, rfl, lk, hcd, _, _⟩ := F.ex
  obtain ⟨c, rfl⟩ := He.codeIn_ref hcd
  rw [He.codeOf_eq (c := c) lk rfl]
end
end HP
namespace HP
open PySem PySem.Spec PyProof.Rows L2
/-! ### several except clauses, with names or without; what stands behind the last one that is looked at is never come to -/
def endsA : Option Nat → Ends → Ends
  | none, D => D
  | some i, D => { nx := fun σ H => D.nx (σ.set i none) H, rt := D.rt, bk := fun σ H => D.bk (σ.set i none) H, ct := fun σ H => D.ct (σ.set i none) H }
def stA : Option Nat → L2.St → Addr → L2.St
  | none, σ, _ => σ
  | some i, σ, a => σ.set i (some (.ref a))
abbrev Cla := Option Nat × Value × (Addr → Value → Option Addr → TS)
def wA (K : PySem.W.Frag) (D : Ends) : List Cla → WX
  | [] => fun _ _ _ _ => False
  | (i, c, ts) :: r => fun cls d σ H => ∃ b, PySem.W.exmOne K cls c = some b ∧ (b = true → ∀ a, H a = none → ts a cls d (endsA i D) (stA i σ a) H) ∧ (b = false → wA K D r cls d σ H)
/-- the suite of a clause, read -/
abbrev Sui (X : Cx) (ss : List Stmt) (ts : Addr → Value → Option Addr → TS) : Prop :=
  ∀ (a : Addr) (o : Obj) (cls : Value) (d : Option Addr) (pn : List (Addr × Obj)), L2N.Zn cls d o → (∃ vs, o.data = .fields vs) → PSs (X.suite a ((a, o) :: pn)) ss (ts a cls d)
inductive HdA (X : Cx) : List ExceptHandler → List Cla → Prop
  | rest {hds : List ExceptHandler} : HdA X hds []
  | bare {x : Str} {c : Value} {ts : Addr → Value → Option Addr → TS} {b : Stmt} {ss : List Stmt} {p p' : Pos} {hds : List ExceptHandler} {l : List Cla} (nc : Names X x c) (su : Sui X (b :: ss) ts) (r : HdA X hds l) :
      HdA X (.ExceptHandler (some (.Name x p)) none (b :: ss) p' :: hds) ((none, c, ts) :: l)
  | as {x n : Str} {i : Nat} {c : Value} {ts : Addr → Value → Option Addr → TS} {b : Stmt} {ss : List Stmt} {p p' : Pos} {hds : List ExceptHandler} {l : List Cla} (hi : X.N[i]? = some n) (hl : X.env.kindOf n = some .local) (nc : Names X x c) (su : Sui X (b :: ss) ts) (r : HdA X hds l) :
      HdA X (.ExceptHandler (some (.Name x p)) (some n) (b :: ss) p' :: hds) ((some i, c, ts) :: l)
section
variable {X : Cx} {body : List Stmt} {h1 : ExceptHandler} {hds : List ExceptHandler} {l : List Cla} {pos : Pos} {tb : WX → TS}
theorem ps_tryA (es : X.stack = X.env :: X.outer) (ef : X.env.frame = some X.env.locals) (nd : X.N.Nodup)
    (rd : ∀ (W : WX) (pn : List (Addr × Obj)) (xe : Value → Shared → Prop), L2N.Takes (X.tr pn xe) W → PassesOwn (model X.prog X.w) X.A X.env xe → PSs (X.tr pn xe) body (tb W))
    (cl : HdA X (h1 :: hds) l) : PS X (.Try body (h1 :: hds) [] [] pos) (fun D σ H => tb (wA X.K D l) D σ H) := by
  constructor
  intro pins s0 σ0 H0 D Iv hy
  have okx := Iv.ok
  have frs0 : X.A.frames = some (X.env :: X.outer) := okx.frames.trans (congrArg some es)
  refine wpAny_Try_except (wpAny_mono ((rd (wA X.K D l) (X.pn ++ pins) (fun v t => wpAny (model X.prog X.w) X.A (noteFrame v X.env) (fun _ t1 => wpAny (model X.prog X.w) X.A (setFlight v none) (fun _ t2 => wpAny (model X.prog X.w) X.A (handleBy v X.env (h1 :: hds)) (SP X pins D) X.xe t2) X.xe t1) X.xe t) ?_ PassesOwn.looking).run [] s0 σ0 H0 D (Iv.toTry _) hy) ?_ (fun _ _ z => z))
  · intro v t caught
    obtain ⟨ad, top, t0, pp, σ1, H1, kc, kd, rfl, Jt, bare, ups, sky, free, oss, gens, wish⟩ := caught
    have J0 : Inv X pins σ1 H1 t0 := Jt.ofTry okx
    rw [es] at sky
    refine L2N.Sky.land L2N.Zn.steady frs0 ef sky fun hh fly upl => ?_
    have J1 : Inv X pins σ1 H1 { t with heap := hh } := J0.landed bare fly.1 (ups.trans upl) oss gens
    obtain ⟨oo, ff, geto, zno, fld⟩ := fly.there
    have apart : ad ∉ frs (X.env :: X.outer) := by
      intro mem
      obtain ⟨_, o2, g2, nofld⟩ := fly.2.2.1.mem mem
      rw [geto] at g2; cases g2; exact nofld _ fld
    have locA : ad ≠ X.env.locals := by
      intro z; exact apart (List.mem_filterMap.mpr ⟨X.env, List.mem_cons_self, by rw [ef, z]⟩)
    have locF : ad ∉ X.fs := by
      intro mem
      obtain ⟨en, men, qq⟩ := List.mem_filterMap.mp mem
      exact apart (List.mem_filterMap.mpr ⟨en, List.mem_cons_of_mem _ men, qq⟩)
    have Su := J1.suite geto fld free locA locF
    have kcls : PySem.W.Looks (model X.prog X.w) hh (typeOf (.ref ad)) kc := fun _ _ _ _ kk q => wpAny_typeOf_ref (kk _ _ geto) (by rw [zno.1]; exact q)
    have tst : ∀ {x : Str} {c : Value} {p : Pos} {Q E : Value → Shared → Prop}, Names X x c → Q c { t with heap := hh } → wpAny (model X.prog X.w) (X.A.mark (some (.ref ad))) (eval (.Name x p) X.env) Q E { t with heap := hh } := by
      intro x c p Q E nm q
      obtain ⟨g1, g2, g3 | ⟨g3, g4, g5⟩⟩ := nm
      · exact ld_glob (X := X.suite ad ((ad, oo) :: (X.pn ++ pins))) Su g1 g3 q g2
      · exact ld_blt (X := X.suite ad ((ad, oo) :: (X.pn ++ pins))) Su g1 g3 g4 q g5 g2
    suffices all : ∀ {hs : List ExceptHandler} {m : List Cla}, HdA X hs m → wA X.K D m kc kd σ1 H1 → wpAny (model X.prog X.w) X.A (handleBy (.ref ad) X.env hs) (SP X pins D) X.xe { t with heap := hh } from all cl wish
    intro hs m hd
    induction hd with
    | rest => intro z; exact False.elim z
    | bare nc su _ ih =>
      rintro ⟨yes, ey, qy, qn⟩
      refine wpAny_handleBy_cons (codeAny_handlers_test (tst nc ((PySem.W.exm_one (M := model X.prog X.w) J1.kIn kcls ey).here ?_))) (by intro z; cases z)
      cases yes with
      | false => exact ih (qn rfl)
      | true =>
        refine codeAny_handlers_suite (HandSPX.lands_againZ fly fun hh2 fly2 upl2 => ?_)
        obtain ⟨oo2, ff2, geto2, zno2, fld2⟩ := fly2.there
        have Su2 := (J0.landed bare fly2.1 ((ups.trans upl).trans upl2) oss gens : Inv X pins σ1 H1 { t with heap := hh2 }).suite geto2 fld2 free locA locF
        refine wpAny_mono ((su ad oo2 kc kd (X.pn ++ pins) zno2 ⟨_, fld2⟩).run [] _ _ H1 _ Su2 (qy rfl ad free)) ?_ (fun _ _ z => z.elim)
        rintro (_ | _ | _ | u) t9 got
        · obtain ⟨σ9, H9, I9, q9⟩ := got; exact ⟨σ9, H9, I9.unsuite okx, q9⟩
        · obtain ⟨σ9, H9, I9, q9⟩ := got; exact ⟨σ9, H9, I9.unsuite okx, q9⟩
        · obtain ⟨σ9, H9, I9, q9⟩ := got; exact ⟨σ9, H9, I9.unsuite okx, q9⟩
        · obtain ⟨v9, σ9, H9, I9, r9, q9⟩ := got; exact ⟨v9, σ9, H9, I9.unsuite okx, r9, q9⟩
    | @as x n i c ts b ss p p' hds' l' hi hl nc su _ ih =>
      rintro ⟨yes, ey, qy, qn⟩
      refine wpAny_handleBy_cons (codeAny_handlers_test (tst nc ((PySem.W.exm_one (M := model X.prog X.w) J1.kIn kcls ey).here ?_))) (by intro z; cases z)
      cases yes with
      | false => exact ih (qn rfl)
      | true =>
        refine codeAny_handlers_suite_as (HandSPX.lands_againZ fly fun hh2 fly2 upl2 => ?_)
        obtain ⟨oo2, ff2, geto2, zno2, fld2⟩ := fly2.there
        have Su2 := (J0.landed bare fly2.1 ((ups.trans upl).trans upl2) oss gens : Inv X pins σ1 H1 { t with heap := hh2 }).suite geto2 fld2 free locA locF
        refine store_ok (X := X.suite ad ((ad, oo2) :: (X.pn ++ pins))) (v := .ref ad) Su2 nd hi (.inl hl) rfl (fun t3 I3 => ?_) (.inr hl)
        refine wpAny_mono ((su ad oo2 kc kd (X.pn ++ pins) zno2 ⟨_, fld2⟩).run [] t3 _ H1 _ I3 (qy rfl ad free)) ?_ (fun _ _ z => z.elim)
        rintro (_ | _ | _ | u) t9 got
        · obtain ⟨σ9, H9, I9, q9⟩ := got; exact gone_ok (I9.unsuite okx) nd hi hl fun _ J9 => ⟨_, _, J9, q9⟩
        · obtain ⟨σ9, H9, I9, q9⟩ := got; exact gone_ok (I9.unsuite okx) nd hi hl fun _ J9 => ⟨_, _, J9, q9⟩
        · obtain ⟨σ9, H9, I9, q9⟩ := got; exact gone_ok (I9.unsuite okx) nd hi hl fun _ J9 => ⟨_, _, J9, q9⟩
        · obtain ⟨v9, σ9, H9, I9, r9, q9⟩ := got; exact gone_ok (I9.unsuite okx) nd hi hl fun _ J9 => ⟨_, _, _, J9, r9, q9⟩
  · rintro (_ | _ | _ | u) t9 got
    · obtain ⟨σ9, H9, I9, q9⟩ := got; exact wpAny_execs_nil ⟨σ9, H9, I9.ofTry okx, q9⟩
    · obtain ⟨σ9, H9, I9, q9⟩ := got; exact ⟨σ9, H9, I9.ofTry okx, q9⟩
    · obtain ⟨σ9, H9, I9, q9⟩ := got; exact ⟨σ9, H9, I9.ofTry okx, q9⟩
    · obtain ⟨v9, σ9, H9, I9, r9, q9⟩ := got; exact ⟨v9, σ9, H9, I9.ofTry okx, r9, q9⟩
end
end HP
namespace HP
open PySem PySem.Spec PyProof.Rows L2
theorem ix_listK {X : Cx} {K : PySem.W.Frag} (h : X.K = K) : IxR X (rIxL K) := by subst h; exact ix_list
end HP
namespace HP
open PySem PySem.Spec PyProof.Rows L2
/-! ### what is shown of things of any kind, dicts of flat things too -/
theorem exm_other {K : PySem.W.Frag} {C D : Addr} {b : Bool} (h1 : PySem.W.subIn K (.ref D) (.type "BaseException") = some true) (h2 : PySem.W.isClsIn K D = true) (h3 : PySem.W.typeIn K (.ref D) = some (.type "type")) (h4 : PySem.W.subIn K (.ref C) (.ref D) = some b) : PySem.W.exmOne K (.ref C) (.ref D) = some b := by
  have e2 : (PySem.W.clsIn K D).isSome = true := h2
  simp [PySem.W.exmOne, PySem.W.kitCls, h1, h3, h4, e2]
def encK : Key → PyData
  | .inl i => .int i
  | .inr x => .str x
def flD : V → Option PyData
  | .non => some .none
  | .bl b => some (.bool b)
  | .int i => some (.int i)
  | .str s => some (.str s)
  | _ => none
def dfl : List (Key × V) → Option (List (PyData × PyData))
  | [] => some []
  | (k, v) :: r => match flD v, dfl r with
    | some d, some D => some ((encK k, d) :: D)
    | _, _ => none
theorem flat_reads {h : Heap} {v : V} {u : Value} {d : PyData} (e : flD v = some d) (r : RelV v u) : Reads h u d [] := by
  cases v with
  | non => cases e; cases r; exact .none
  | bl b => cases e; cases r; exact .bool b
  | int i => cases e; obtain ⟨t, rfl⟩ := r; exact .int i t
  | str s => cases e; obtain ⟨t, rfl⟩ := r; exact .str s t
  | _ => cases e
theorem pairs_flat {h : Heap} : ∀ {kvs : List (Key × V)} {vs : List (Key × Value)} {D : List (PyData × PyData)}, KV kvs vs → dfl kvs = some D → PyProof.V.PairsRead h encK vs D []
  | _, _, D, .nil, e => by cases e; exact .nil
  | _, _, D, .cons (a := (k, v)) (b := (k', u)) ⟨z, r⟩ t, e => by
    unfold dfl at e
    split at e
    · rename_i d D' e1 e2
      cases e
      obtain rfl : k = k' := z
      exact .cons (as := []) (flat_reads e1 r) (pairs_flat t e2)
    · cases e
theorem key_reads {P : Program} {w : World} {h : Heap} (k : Key) (u : Value) (e : (mixKind P w).is k u = true) : Reads h u (encK k) [] := by
  rcases keyIs_shape e with ⟨i, t, rfl, rfl⟩ | ⟨x, t, rfl, rfl⟩
  · exact .int i t
  · exact .str x t
theorem gd_non : GD .none 1 0 := ⟨rfl, rfl, by decide, by decide +kernel, by decide, rfl⟩
theorem gd_bl {b : Bool} : GD (.bool b) 1 0 := by cases b <;> exact ⟨rfl, rfl, by decide, by decide +kernel, by decide, rfl⟩
def rReprX (K : PySem.W.Frag) : List V → Hp → VK → Prop := fun xs H Q =>
  (∃ v d k m, xs = [v] ∧ Dp K H v d ∧ GD d k m ∧ k ≤ 60 ∧ m ≤ 8000 ∧ Q (.str d.shown) H) ∨
  (∃ a kvs D, xs = [.ref a] ∧ H a = some (.dK kvs) ∧ dfl kvs = some D ∧ (PyData.dict D).showable = true ∧ (PyData.dict D).depth ≤ 60 ∧ (PyData.dict D).shown.length ≤ sizeLine ∧ Q (.str (PyData.dict D).shown) H)
section
variable {X : Cx}
theorem call_reprX (hg : X.A.guards = some []) (hu : X.A.units + 64 < cLine) : CallR X (.builtin "repr") (rReprX X.K) := by
  intro pins s σ H xs us Q I r h
  rcases h with ⟨v, d, k, m, rfl, hd, g, hk, hm, q⟩ | ⟨a, kvs, D, rfl, e, ed, hs, hdp, hl, q⟩
  · obtain ⟨u, rfl, rx⟩ := vals1 r
    have len := g.len hm
    cases hd with
    | non => cases rx; exact PySem.P.repr_of_none ⟨.str _, H, I.tok _, ⟨_, rfl⟩, q⟩
    | bl b =>
      cases rx
      refine PySem.P.repr_of_bool ⟨.str _, H, I.tok _, ⟨_, rfl⟩, ?_⟩
      cases b <;> exact q
    | int i =>
      obtain ⟨t, rfl⟩ := rx
      refine PySem.P.repr_of_int ?_ ⟨.str _, H, I.tok _, ⟨_, rfl⟩, q⟩
      simpa [PyData.showable] using g.s
    | str x =>
      obtain ⟨t, rfl⟩ := rx
      exact PySem.P.repr_of_str ⟨.str _, H, I.tok _, ⟨_, rfl⟩, q⟩ (by simpa [PyData.shown] using len)
    | @lst a xs ds h1 h2 =>
      cases (show u = Value.ref a from rx)
      obtain ⟨as, rd⟩ := Dp.reads I _ _ _ (.lst h1 h2) rfl
      exact repr_of_reads' rd g.s (fun z => by rw [g.h] at z; cases z) hg (by have := g.dp; omega) (fun _ _ e => e) (fun h' u tk k => ⟨.str _, H, I.kept k, ⟨u, rfl⟩, q⟩) len
    | @tup a xs ds h1 h2 =>
      cases (show u = Value.ref a from rx)
      obtain ⟨as, rd⟩ := Dp.reads I _ _ _ (.tup h1 h2) rfl
      exact repr_of_reads' rd g.s (fun z => by rw [g.h] at z; cases z) hg (by have := g.dp; omega) (fun _ _ e => e) (fun h' u tk k => ⟨.str _, H, I.kept k, ⟨u, rfl⟩, q⟩) len
  · obtain ⟨u, rfl, rx⟩ := vals1 r
    cases (show u = Value.ref a from rx)
    obtain ⟨_, nsys, vs, kv, dof⟩ := dk_of I.hok e
    have rd := PyProof.V.reads_dictOf (fun k u z => key_reads k u z) dof (pairs_flat (h := s.heap) kv ed)
    exact repr_of_reads' rd hs (fun _ z => by rw [List.mem_singleton.mp z] at nsys; simp at nsys) hg (by omega) (fun _ _ e => e) (fun h' u tk k => ⟨.str _, H, I.kept k, ⟨u, rfl⟩, q⟩) hl
end
end HP
namespace HP
open PySem PySem.Spec PyProof.Rows L2
/-! ### things that are refused (k41 and more) -/
abbrev Rfs (C : Addr) (v : V) (H : Hp) (E : XK) : Prop := ∀ d H', Same H H' → H d = none → H' d = some (.xd [("found", v)]) → E (.ref C) (some d) H'
def spNeedE (K : PySem.W.Frag) (C : Addr) : Sp := fun vs H Q E => ∃ v bx, vs = [v] ∧ Th K bx H v ∧ (numB H v = true → Q .non H) ∧ (numB H v = false → Rfs C v H E)
def spInE (K : PySem.W.Frag) (C : Addr) (lo hi : Int) : Sp := fun vs H Q E => ∃ v bx, vs = [v] ∧ Th K bx H v ∧ (wholeB lo hi v = true → Q .non H) ∧ (wholeB lo hi v = false → Rfs C v H E)
def spSizeT (K : PySem.W.Frag) : Sp := fun vs H Q _ => ∃ v bx, vs = [v] ∧ Th K bx H v ∧ Q (.bl (wholeB 1 200 v)) H
theorem wholeB_yes {lo hi : Int} {v : V} (h : wholeB lo hi v = true) : ∃ i, v = .int i ∧ lo ≤ i ∧ i ≤ hi := by
  cases v with
  | int i => exact ⟨i, rfl, by simpa [wholeB] using h⟩
  | _ => cases h
theorem wholeB_in {lo hi i : Int} (h1 : lo ≤ i) (h2 : i ≤ hi) : wholeB lo hi (.int i) = true := decide_eq_true ⟨h1, h2⟩
/-- what is told to be a number is one -/
theorem Th.num {K : PySem.W.Frag} {bx : Addr} {H : Hp} {v : V} (h : Th K bx H v) (e : numB H v = true) : ∃ q, NQ H v q ∧ BQ 700 q := by
  cases h with
  | int i h => exact ⟨((i : Int) : Rat), NQ.int, BQ.int h (by decide)⟩
  | @tup a xs ha n l hx =>
    rw [numB_tup ha] at e
    unfold numV at e
    split at e
    · rename_i t b
      have z := of_decide_eq_true e
      have ht : Bt 700 t := by have := hx (.int t) (by simp); cases this; assumption
      have hb : Bt 700 b := by have := hx (.int b) (by simp); cases this; assumption
      have N : Num H (.ref a) t b := .inr ⟨a, rfl, ha, z.1, z.2⟩
      exact ⟨(t : Rat) / (b : Rat), N.nq', BQ.of ht hb (by omega)⟩
    · cases e
  | lst e2 n => simp [numB, e2] at e
  | dct e2 n => simp [numB, e2] at e
  | err e2 n nd c o =>
    rw [numB_not fun a xs z e3 => by cases z; rw [e2.e] at e3; exact exo_tup (Option.some.inj e3)] at e
    cases e
  | _ => cases e
theorem NQ.th {K : PySem.W.Frag} {bx : Addr} {H : Hp} {v : V} {q : Rat} {n : Int} (h : NQ H v q) (b : BQ 700 q) (B : Box H bx n) : Th K bx H v ∧ numB H v = true := by
  rcases h with ⟨rfl, e⟩ | ⟨a, rfl, ha, hb, hc⟩
  · exact ⟨.int _ b.t, rfl⟩
  · refine ⟨.tup ha ?_ (by simp) ?_, ?_⟩
    · intro z
      obtain ⟨_, _, _, e, _⟩ := B
      rw [z, e] at ha; cases ha
    · intro x hx
      simp only [List.mem_cons, List.not_mem_nil, or_false] at hx
      rcases hx with rfl | rfl
      · exact .int _ b.t
      · exact .int _ b.b
    · rw [numB_tup ha]
      exact decide_eq_true ⟨hb, hc⟩
def spScaledE (K : PySem.W.Frag) (CN CS : Addr) : Sp := fun vs H Q E => ∃ v1 v2 v3 bx, vs = [v1, v2, v3] ∧ Th K bx H v1 ∧ Th K bx H v2 ∧ Th K bx H v3 ∧ (numB H v1 = false → Rfs CN v1 H E) ∧ (numB H v1 = true → wholeB 1 200 v2 = false → Rfs CS v2 H E) ∧
  (numB H v1 = true → wholeB 1 200 v2 = true → wholeB 16 4096 v3 = false → Rfs CN v3 H E) ∧ ∀ q s m, NQ H v1 q → v2 = .int s → v3 = .int m → 1 ≤ s → s ≤ 200 → 16 ≤ m → m ≤ 4096 → ∀ v H', Same H H' → NQ H' v (q * ((s * 64 : Int) : Rat) / ((m : Int) : Rat)) → Q v H'
def out41 (H : Hp) (v1 v2 v3 : V) : String × V := if numB H v1 = false then ("number", v1) else if wholeB 1 200 v2 = false then ("size", v2) else if wholeB 16 4096 v3 = false then ("number", v3) else ("told", .non)
def spRefd41 (K : PySem.W.Frag) : Sp := fun vs H Q _ => ∃ th v1 v2 v3 bx, vs = [.ref th] ∧ H th = some (.lst [v1, v2, v3]) ∧ Th K bx H v1 ∧ Th K bx H v2 ∧ Th K bx H v3 ∧ ∀ p H', Same H H' → H p = none → H' p = some (.tup [.str (out41 H v1 v2 v3).1, (out41 H v1 v2 v3).2]) → Q (.ref p) H'
def spComm0 : Sp := fun vs H Q _ => ∃ a b : Int, vs = [.int a, .int b] ∧ 0 ≤ a ∧ 0 ≤ b ∧ Q (.int ((Nat.gcd a.natAbs b.natAbs : Nat) : Int)) H
def spNumb41 : Sp := fun vs H Q _ => ∃ bx n, vs = [.ref bx] ∧ Box H bx n ∧ n < 800000 ∧ ∀ p (t b : Int) u H', H' p = some (.tup [.int t, .int b, u]) → p ≠ bx → 0 < b → cop t b → Num H' u t b → Bt 110 t → Bt 110 b → Go bx H H' → Box H' bx (n + 20) → Q (.ref p) H'
def spDue41 : Sp := fun vs H Q _ => ∃ t b s m : Int, vs = [.int t, .int b, .int s, .int m] ∧ 0 < b ∧ 1 ≤ s ∧ s ≤ 200 ∧ 16 ≤ m ∧ m ≤ 4096 ∧ Bt 110 t ∧ Bt 110 b ∧ ∀ v H', Same H H' → NQ H' v ((t : Rat) / (b : Rat) * ((s * 64 : Int) : Rat) / ((m : Int) : Rat)) → Q v H'
def spRight41 (K : PySem.W.Frag) : Sp := fun vs H Q _ => ∃ bx n th v q s m, vs = [.ref bx, .ref th] ∧ Box H bx n ∧ n < 900000 ∧ th ≠ bx ∧ H th = some (.lst [v, .int s, .int m]) ∧ NQ H v q ∧ BQ 300 q ∧ 1 ≤ s ∧ s ≤ 200 ∧ 16 ≤ m ∧ m ≤ 4096 ∧ ∀ H', Go bx H H' → Box H' bx (n + 30) → Q (.bl true) H'
end HP
namespace HP
open PySem PySem.Spec PyProof.Rows L2
theorem bt_lt {k : Nat} {x m : Int} (h0 : 0 ≤ x) (h1 : x < m) (h : m ≤ 2 ^ k) : Bt k x := ⟨by
  have h2 : (x.natAbs : Int) < 2 ^ k := by rw [Int.natAbs_of_nonneg h0]; omega
  exact_mod_cast h2⟩
theorem cop_neg {t b : Int} (h : cop t b) : cop (-t) b := by unfold cop at *; rw [Int.natAbs_neg]; exact h
theorem gcd_le41 {u l g : Int} (hl : 0 < l) (hg : ((Nat.gcd u.natAbs l.natAbs : Nat) : Int) = g) : g.natAbs ≤ l.natAbs := by
  have := Nat.gcd_le_right u.natAbs (show 0 < l.natAbs by omega)
  omega
theorem cut41r {u l g : Int} {k : Nat} (hu : 0 ≤ u) (hl : 0 < l) (bu : Bt k u) (bl : Bt k l) (hg : ((Nat.gcd u.natAbs l.natAbs : Nat) : Int) = g) :
    0 < g ∧ ∃ u' l' : Int, u.fdiv g = u' ∧ l.fdiv g = l' ∧ 0 < l' ∧ cop u' l' ∧ Bt k u' ∧ Bt k l' ∧ (u' : Rat) / (l' : Rat) = (u : Rat) / (l : Rat) := by
  have gp : 0 < Nat.gcd u.natAbs l.natAbs := Nat.gcd_pos_of_pos_right _ (by omega)
  have hg0 : 0 < g := by omega
  obtain ⟨x, ex⟩ := Nat.gcd_dvd_left u.natAbs l.natAbs
  obtain ⟨y, ey⟩ := Nat.gcd_dvd_right u.natAbs l.natAbs
  have eu : u = g * (x : Int) := by
    have : (u.natAbs : Int) = (Nat.gcd u.natAbs l.natAbs : Int) * (x : Int) := by exact_mod_cast ex
    rw [← hg]; omega
  have el : l = g * (y : Int) := by
    have : (l.natAbs : Int) = (Nat.gcd u.natAbs l.natAbs : Int) * (y : Int) := by exact_mod_cast ey
    rw [← hg]; omega
  have e1 : u.fdiv g = x := by rw [eu]; exact Int.mul_fdiv_cancel_left _ (by omega)
  have e2 : l.fdiv g = y := by rw [el]; exact Int.mul_fdiv_cancel_left _ (by omega)
  have yp : 0 < (y : Int) := Int.pos_of_mul_pos_left (by rw [Int.mul_comm, ← el]; exact hl) hg0
  refine ⟨hg0, x, y, e1, e2, yp, ?_, bu.le ?_, bl.le ?_, ?_⟩
  · unfold cop
    rw [Int.natAbs_natCast, Int.natAbs_natCast]
    have h1 : Nat.gcd u.natAbs l.natAbs * Nat.gcd x y = Nat.gcd u.natAbs l.natAbs := by
      rw [← Nat.gcd_mul_left, ← ex, ← ey]
    exact Nat.eq_of_mul_eq_mul_left gp (by rw [h1, Nat.mul_one])
  · rw [Int.natAbs_natCast, ex]; exact Nat.le_mul_of_pos_left _ gp
  · rw [Int.natAbs_natCast]
    have := Nat.le_mul_of_pos_left y gp
    omega
  · have hgr : ((g : Int) : Rat) ≠ 0 := int_ne (by omega)
    have hyr : (((y : Nat) : Int) : Rat) ≠ 0 := int_ne (by omega)
    rw [eu, el, Rat.intCast_mul, Rat.intCast_mul]
    grind
theorem cut41 {t b g : Int} (ht : 0 ≤ t) (hb : 1 ≤ b) (bt : Bt 100 t) (bb : Bt 100 b) (hg : ((Nat.gcd t.natAbs b.natAbs : Nat) : Int) = g) :
    (0 < g ∧ g.natAbs ≤ b.natAbs) ∧ ∃ t' b' : Int, t.fdiv g = t' ∧ b.fdiv g = b' ∧ 0 < b' ∧ cop t' b' ∧ Bt 110 t' ∧ Bt 110 b' ∧ True := by
  obtain ⟨g0, t', b', e1, e2, hb', hc, B1, B2, _⟩ := cut41r ht (by omega) bt bb hg
  exact ⟨⟨g0, gcd_le41 (by omega) hg⟩, t', b', e1, e2, hb', hc, B1.mono (by decide), B2.mono (by decide), trivial⟩
theorem due41p {u l t b s m : Int} (e : (u : Rat) / (l : Rat) = ((t * s * 64 : Int) : Rat) / ((b * m : Int) : Rat)) (hb : 0 < b) (hm : 0 < m) : (u : Rat) / (l : Rat) = (t : Rat) / (b : Rat) * ((s * 64 : Int) : Rat) / ((m : Int) : Rat) := by
  have h1 : ((b : Int) : Rat) ≠ 0 := int_ne (by omega)
  have h2 : ((m : Int) : Rat) ≠ 0 := int_ne (by omega)
  rw [e]
  simp only [Rat.intCast_mul]
  grind
theorem due41n {u l t b s m : Int} (e : (u : Rat) / (l : Rat) = ((-t * s * 64 : Int) : Rat) / ((b * m : Int) : Rat)) (hb : 0 < b) (hm : 0 < m) : ((0 - u : Int) : Rat) / (l : Rat) = (t : Rat) / (b : Rat) * ((s * 64 : Int) : Rat) / ((m : Int) : Rat) := by
  have h1 : ((b : Int) : Rat) ≠ 0 := int_ne (by omega)
  have h2 : ((m : Int) : Rat) ≠ 0 := int_ne (by omega)
  rw [Int.zero_sub, Rat.intCast_neg, Rat.div_def, Rat.neg_mul, ← Rat.div_def, e]
  simp only [Rat.intCast_mul, Rat.intCast_neg]
  grind
end HP
namespace HP
open PySem PySem.Spec PyProof.Rows L2
theorem NQ.nb {H : Hp} {v : V} {q : Rat} (h : NQ H v q) : numB H v = true := by
  rcases h with ⟨rfl, e⟩ | ⟨a, rfl, ha, hb, hc⟩
  · rfl
  · rw [numB_tup ha]
    exact decide_eq_true ⟨hb, hc⟩
/-- odd things: flat ones, tuples of whole numbers, a list of one, an empty dict; the last two were not there in H0 -/
inductive Od (bx : Addr) (H0 H : Hp) : V → Prop
  | non : Od bx H0 H .non
  | bl (b : Bool) : Od bx H0 H (.bl b)
  | int (i : Int) (h : i.natAbs < 2 ^ 100) : Od bx H0 H (.int i)
  | str (s : Str) (h : s.length ≤ 10) (o : PyData.strOk s = true) (g : GD (.str s) 1 2) : Od bx H0 H (.str s)
  | tup {a : Addr} {is : List Int} (e : H a = some (.tup (is.map V.int))) (n : a ≠ bx) (l : is.length ≤ 3) (b : ∀ i ∈ is, i.natAbs < 2 ^ 100) : Od bx H0 H (.ref a)
  | lst {a : Addr} (e : H a = some (.lst [.int 5])) (n : a ≠ bx) (z : H0 a = none) : Od bx H0 H (.ref a)
  | dct {a : Addr} (e : H a = some (.dK [])) (n : a ≠ bx) (z : H0 a = none) : Od bx H0 H (.ref a)
theorem Od.go {bx : Addr} {H0 H H' : Hp} {v : V} (h : Od bx H0 H v) (g : Go bx H H') : Od bx H0 H' v := by
  cases h with
  | non => exact .non
  | bl b => exact .bl b
  | int i h => exact .int i h
  | str s h o g => exact .str s h o g
  | tup e n l b => exact .tup (g _ _ e n) n l b
  | lst e n z => exact .lst (g _ _ e n) n z
  | dct e n z => exact .dct (g _ _ e n) n z
theorem Od.th {K : PySem.W.Frag} {bx : Addr} {H0 H : Hp} {v : V} (h : Od bx H0 H v) : Th K bx H v := by
  cases h with
  | non => exact .non
  | bl b => exact .bl b
  | int i h => exact .int i ((⟨h⟩ : Bt 100 i).mono (by decide))
  | str s h o g => exact .str s (by omega) o
  | tup e n l b =>
    refine .tup e n (by rw [List.length_map]; omega) fun x hx => ?_
    obtain ⟨i, hi, rfl⟩ := List.mem_map.mp hx
    exact .int i ((⟨b i hi⟩ : Bt 100 i).mono (by decide))
  | lst e n => exact .lst e n
  | dct e n => exact .dct e n
theorem dp_ints {K : PySem.W.Frag} {H : Hp} : ∀ is : List Int, DpAll K H (is.map V.int) (is.map PyData.int)
  | [] => .nil
  | i :: is => .cons (.int i) (dp_ints is)
theorem Od.kind {bx : Addr} {H0 H : Hp} {v : V} (K : PySem.W.Frag) (h : Od bx H0 H v) : (isS H v "list" = false ∧ isS H v "dict" = false ∧ ∃ d, GD d 3 10 ∧ ∀ H', Go bx H H' → Dp K H' v d) ∨ (∃ a, v = .ref a ∧ H a = some (.lst [.int 5]) ∧ a ≠ bx ∧ H0 a = none) ∨ (∃ a, v = .ref a ∧ H a = some (.dK []) ∧ a ≠ bx ∧ H0 a = none) := by
  cases h with
  | non => exact .inl ⟨rfl, rfl, _, gd_non.mono (by decide) (by decide), fun _ _ => .non⟩
  | bl b => exact .inl ⟨rfl, rfl, _, gd_bl.mono (by decide) (by decide), fun _ _ => .bl b⟩
  | int i h => exact .inl ⟨rfl, rfl, _, (gd_int ((⟨h⟩ : Bt 100 i).mono (by decide))).mono (by decide) (by decide), fun _ _ => .int i⟩
  | str s h o g => exact .inl ⟨rfl, rfl, _, g.mono (by decide) (by decide), fun _ _ => .str s⟩
  | @tup a is e n l b =>
    refine .inl ⟨by simp [isS, tyS, e], by simp [isS, tyS, e], _, (gd_tuple (k := 1) (m := 0) (ds := is.map PyData.int) fun d hd => ?_).mono (by decide) (by rw [List.length_map]; omega), fun H' g => .tup (SqT.of (g _ _ e n)) (dp_ints is)⟩
    obtain ⟨i, hi, rfl⟩ := List.mem_map.mp hd
    exact gd_int ((⟨b i hi⟩ : Bt 100 i).mono (by decide))
  | lst e n z => exact .inr (.inl ⟨_, rfl, e, n, z⟩)
  | dct e n z => exact .inr (.inr ⟨_, rfl, e, n, z⟩)
theorem gd_51 : GD (.list [.int 5, .int 1]) 3 10 := ⟨by decide +kernel, rfl, by decide +kernel, by decide +kernel, by decide +kernel, by decide +kernel⟩
theorem q_reprM {K : PySem.W.Frag} {H : Hp} {Q : VK} {a : Addr} (e : H a = some (.dK [(.inr "more", .int 1)])) (q : Q (.str (PyData.dict [(.str "more", .int 1)]).shown) H) : rReprX K [.ref a] H Q :=
  .inr ⟨a, _, [(.str "more", .int 1)], rfl, e, rfl, by decide +kernel, by decide +kernel, by decide +kernel, q⟩
theorem q_reprD {K : PySem.W.Frag} {H : Hp} {Q : VK} {v : V} {d : PyData} (D : Dp K H v d) (g : GD d 3 10) (q : Q (.str d.shown) H) : rReprX K [v] H Q :=
  .inl ⟨v, d, 3, 10, rfl, D, g, by decide, by decide, q⟩
def badJ (j : Nat) (H : Hp) (v : V) : Bool := match j with
  | 0 => !numB H v
  | 1 => !wholeB 1 200 v
  | _ => !wholeB 16 4096 v
theorem numB_od {bx : Addr} {H0 H H' : Hp} {v : V} (h : Od bx H0 H v) (g : Go bx H H') : numB H' v = numB H v := by
  cases h with
  | tup e n l b => rw [numB_tup (g _ _ e n), numB_tup e]
  | lst e n => simp [numB, e, g _ _ e n]
  | dct e n => simp [numB, e, g _ _ e n]
  | _ => rfl
theorem badJ_of {j : Nat} {H H' : Hp} {v : V} (e : numB H' v = numB H v) (b : badJ j H v = true) : badJ j H' v = true := by
  match j with
  | 0 => show (!numB H' v) = true; rw [e]; exact b
  | 1 => exact b
  | _ + 2 => exact b
structure OdB (bx : Addr) (H0 H : Hp) (j : Nat) (v : V) : Prop where
  o : Od bx H0 H v
  b : badJ j H v = true
theorem OdB.go {bx : Addr} {H0 H H' : Hp} {j : Nat} {v : V} (h : OdB bx H0 H j v) (g : Go bx H H') : OdB bx H0 H' j v := ⟨h.o.go g, badJ_of (numB_od h.o g) h.b⟩
structure OdBs (bx : Addr) (H0 H : Hp) (j : Nat) (xs : List V) : Prop where
  h : ∀ v ∈ xs, OdB bx H0 H j v
theorem OdBs.go {bx : Addr} {H0 H H' : Hp} {j : Nat} {xs : List V} (h : OdBs bx H0 H j xs) (g : Go bx H H') : OdBs bx H0 H' j xs := ⟨fun v hv => (h.h v hv).go g⟩
theorem OdBs.same {bx : Addr} {H0 H H' : Hp} {j : Nat} {xs : List V} (h : OdBs bx H0 H j xs) (s : Same H H') : OdBs bx H0 H' j xs := h.go (Go.of s)
theorem bad_lst {H : Hp} {a : Addr} {xs : List V} (e : H a = some (.lst xs)) : badJ 0 H (.ref a) = true := by simp [badJ, numB, e]
theorem bad_dct {H : Hp} {a : Addr} {xs : List (Key × V)} (e : H a = some (.dK xs)) : badJ 0 H (.ref a) = true := by simp [badJ, numB, e]
end HP
namespace HP
open PySem PySem.Spec PyProof.Rows L2
/-! ### a list of the frame is set anew -/
abbrev Upt (K K' : Hp) (a : Addr) : Prop := ∀ b o, K b = some o → b ≠ a → K' b = some o
theorem ne_heap {K : Hp} {a b : Addr} {x y : HO} (h1 : K a = some x) (h2 : K b = some y) (n : x ≠ y) : a ≠ b := by
  rintro rfl
  rw [h1] at h2
  exact n (Option.some.inj h2)
theorem NQ.put' {K K' : Hp} {a : Addr} {ys : List V} {v : V} {q : Rat} (N : NQ K v q) (U : Upt K K' a) (h : K a = some (.lst ys)) : NQ K' v q := by
  rcases N with ⟨rfl, e⟩ | ⟨p, rfl, hp, hb, hc⟩
  · exact .inl ⟨rfl, e⟩
  · exact .inr ⟨p, rfl, U _ _ hp (ne_heap hp h (by simp)), hb, hc⟩
theorem Box.put' {K K' : Hp} {a bx : Addr} {n : Int} (B : Box K bx n) (U : Upt K K' a) (nb : a ≠ bx) : Box K' bx n := by
  obtain ⟨x, y, z, e, r⟩ := B
  exact ⟨x, y, z, U _ _ e (Ne.symm nb), r⟩
theorem Go.put' {K K' H : Hp} {a bx : Addr} (G : Go bx H K) (U : Upt K K' a) (z : H a = none) : Go bx H K' := fun b o e n => U _ _ (G b o e n) (ne_of_none e z)
theorem Go.before {K H : Hp} {a bx : Addr} (G : Go bx H K) (z : K a = none) (nb : a ≠ bx) : H a = none := by
  cases h : H a with
  | none => rfl
  | some o => rw [G a o h nb] at z; cases z
theorem OdBs.put' {K K' H0 : Hp} {a bx : Addr} {ys : List V} {j : Nat} {xs : List V} (O : OdBs bx H0 K j xs) (U : Upt K K' a) (h : K a = some (.lst ys)) (n5 : ys ≠ [.int 5]) : OdBs bx H0 K' j xs := ⟨fun v hv => by
  obtain ⟨o, b⟩ := O.h v hv
  have hN : ∀ p x, K p = some x → x ≠ .lst ys → K' p = some x := fun p x e n => U _ _ e (ne_heap e h n)
  have key : Od bx H0 K' v ∧ numB K' v = numB K v := by
    cases o with
    | non => exact ⟨.non, rfl⟩
    | bl b' => exact ⟨.bl b', rfl⟩
    | int i h => exact ⟨.int i h, rfl⟩
    | str s h o g => exact ⟨.str s h o g, rfl⟩
    | tup e n l b' =>
      have e' := hN _ _ e (by simp)
      exact ⟨.tup e' n l b', by rw [numB_tup e, numB_tup e']⟩
    | lst e n z =>
      have e' := hN _ _ e (fun z => n5 (HO.lst.inj z).symm)
      exact ⟨.lst e' n z, by simp [numB, e, e']⟩
    | dct e n z =>
      have e' := hN _ _ e (by simp)
      exact ⟨.dct e' n z, by simp [numB, e, e']⟩
  exact ⟨key.1, badJ_of key.2 b⟩⟩
/-- what is handed in: the odd thing, or the good one -/
abbrev Pk (bx : Addr) (H0 H : Hp) (j : Nat) (b : Bool) (o x : V) : Prop := (b = true ∧ OdB bx H0 H j x) ∨ (b = false ∧ x = o)
def Hd41 (bx : Addr) (H0 H : Hp) (b0 b1 b2 : Bool) (o0 o1 o2 : V) : Nat → List V → Prop
  | 0, hs => hs = []
  | 1, hs => ∃ x, hs = [x] ∧ Pk bx H0 H 0 b0 o0 x
  | 2, hs => ∃ x y, hs = [x, y] ∧ Pk bx H0 H 0 b0 o0 x ∧ Pk bx H0 H 1 b1 o1 y
  | 3, hs => ∃ x y z, hs = [x, y, z] ∧ Pk bx H0 H 0 b0 o0 x ∧ Pk bx H0 H 1 b1 o1 y ∧ Pk bx H0 H 2 b2 o2 z
  | _, _ => False
theorem out_0 {bx : Addr} {H0 H : Hp} {x y z : V} (o : OdB bx H0 H 0 x) : out41 H x y z = ("number", x) := by
  have e : numB H x = false := by simpa [badJ] using o.b
  unfold out41; rw [if_pos e]
theorem out_1 {bx : Addr} {H0 H : Hp} {x y z : V} (e : numB H x = true) (o : OdB bx H0 H 1 y) : out41 H x y z = ("size", y) := by
  have e2 : wholeB 1 200 y = false := by simpa [badJ] using o.b
  unfold out41; rw [if_neg (by rw [e]; decide), if_pos e2]
theorem out_2 {bx : Addr} {H0 H : Hp} {x y z : V} (e : numB H x = true) (e2 : wholeB 1 200 y = true) (o : OdB bx H0 H 2 z) : out41 H x y z = ("number", z) := by
  have e3 : wholeB 16 4096 z = false := by simpa [badJ] using o.b
  unfold out41; rw [if_neg (by rw [e]; decide), if_neg (by rw [e2]; decide), if_pos e3]
theorem out_t {H : Hp} {x y z : V} (e : numB H x = true) (e2 : wholeB 1 200 y = true) (e3 : wholeB 16 4096 z = true) : out41 H x y z = ("told", .non) := by
  unfold out41; rw [if_neg (by rw [e]; decide), if_neg (by rw [e2]; decide), if_neg (by rw [e3]; decide)]
theorem Pk.th {K : PySem.W.Frag} {bx : Addr} {H0 H H' : Hp} {j : Nat} {b : Bool} {o x : V} (p : Pk bx H0 H j b o x) (g : Go bx H H') (h : Th K bx H' o) : Th K bx H' x := by
  rcases p with ⟨_, p⟩ | ⟨_, rfl⟩
  · exact (p.go g).o.th
  · exact h
end HP
namespace HP
open PySem PySem.Spec PyProof.Rows L2
theorem hd41_len {bx : Addr} {H0 H : Hp} {b0 b1 b2 : Bool} {o0 o1 o2 : V} : ∀ {i : Nat} {hs : List V}, Hd41 bx H0 H b0 b1 b2 o0 o1 o2 i hs → hs.length = i
  | 0, _, h => by cases h; rfl
  | 1, _, ⟨_, e, _⟩ => by rw [e]; rfl
  | 2, _, ⟨_, _, e, _⟩ => by rw [e]; rfl
  | 3, _, ⟨_, _, _, e, _⟩ => by rw [e]; rfl
end HP
namespace HP
open PySem PySem.Spec PyProof.Rows L2
theorem q_lenN {K : PySem.W.Frag} {H : Hp} {Q : VK} {a : Addr} {xs : List V} (n : Nat) (h : H a = some (.lst xs)) (e : xs.length = n) (hn : n < 1000000) (q : Q (.int (n : Int)) H) : rLenK K [.ref a] H Q := by
  subst e
  exact q_lenL (SqL.of h) q
end HP
namespace HP
open PySem PySem.Spec PyProof.Rows L2
theorem idx_1 {b : V} : ∀ (m : Nat) (z : V), m < 1 → [V.bl false, V.bl true, b][m]? = some z → eqV z (.bl true) = false
  | 0, _, _, e => by cases e; rfl
theorem idx_2 : ∀ (m : Nat) (z : V), m < 2 → [V.bl false, V.bl false, V.bl true][m]? = some z → eqV z (.bl true) = false
  | 0, _, _, e => by cases e; rfl
  | 1, _, _, e => by cases e; rfl
end HP
namespace HP
open PySem PySem.Spec PyProof.Rows L2
theorem q_reprQ {K : PySem.W.Frag} {H : Hp} {Q : VK} {v : V} {q : Rat} (N : NQ H v q) (b : BQ 1900 q) (h : Q (.str (dN q.num (q.den : Int)).shown) H) : rReprX K [v] H Q :=
  .inl ⟨v, _, 2, 2, rfl, Num.dp N, gd_num b.t b.b, by decide, by decide, h⟩
theorem NQ.uniq {H : Hp} {v : V} {q r : Rat} (h : NQ H v q) (k : NQ H v r) : q = r := by
  have key : q.num = r.num ∧ (q.den : Int) = (r.den : Int) := by
    rcases h with ⟨rfl, e⟩ | ⟨a, rfl, ha, _, _⟩
    · rcases k with ⟨e2, e3⟩ | ⟨b, e2, _⟩
      · exact ⟨V.int.inj e2, by rw [e, e3]⟩
      · cases e2
    · rcases k with ⟨e2, _⟩ | ⟨b, e2, hb, _, _⟩
      · cases e2
      · cases e2
        rw [ha] at hb
        have z := HO.tup.inj (Option.some.inj hb)
        simp only [List.cons.injEq, V.int.injEq, and_true] at z
        exact z
  rw [rat_nd q, rat_nd r, key.1, key.2]
theorem q_scaled {K : PySem.W.Frag} {CN CS : Addr} {H : Hp} {Q : VK} {bx : Addr} {n s m : Int} {u : V} {q : Rat} (B : Box H bx n) (N : NQ H u q) (b : BQ 110 q) (s1 : 1 ≤ s) (s2 : s ≤ 200) (m1 : 16 ≤ m) (m2 : m ≤ 4096)
    (h : ∀ v H', Same H H' → NQ H' v (q * ((s * 64 : Int) : Rat) / ((m : Int) : Rat)) → Q v H') {E : XK} : spScaledE K CN CS [u, .int s, .int m] H Q E := by
  refine ⟨u, .int s, .int m, bx, rfl, (N.th (b.mono (by decide)) B).1, .int s ((Bt.small (by omega) (by omega)).mono (by decide)), .int m ((Bt.small (by omega) (by omega)).mono (by decide)), fun e => absurd (N.nb.symm.trans e) (by decide), fun _ e => absurd ((wholeB_in s1 s2).symm.trans e) (by decide),
    fun _ _ e => absurd ((wholeB_in m1 m2).symm.trans e) (by decide), fun q1 s' m' N1 es em _ _ _ _ v H' S1 M1 => ?_⟩
  cases es; cases em
  rw [NQ.uniq N1 N] at M1
  exact h v H' S1 M1
end HP
namespace HP
open PySem PySem.Spec PyProof.Rows L2 NdefX LamX
/-! ### a law's call, where the def is walked under the caller alone and code tables may grow -/
abbrev TblO : Obj := { cls := .none, data := .fields #[] }
theorem callGT {P : Program} {w : World} {K : PySem.W.Frag} {mg mb : Str → Option Value} {k : Nat} {fa a : Addr} {T : List (Addr × Addr)} {fd : FuncData} {x : Str} {sp : Sp} {s : Shared} {vs : List Value} {ns : List Int}
    (inK : K.In s.heap) (glob : s.heap.Ns mainGlobals mg) (blt : s.heap.Ns builtinsNs mb) (bltx : ∀ y : Str, y ≠ "__name__" → mb y = bootBuiltins y) (lim : s.heap.NoLimit) (gens : s.gens = #[])
    (tab : ∀ p ∈ T, s.heap.get? p.2 = some TblO) (out : ∀ p ∈ T, K.lookup p.2 = none) (cod : ∀ p ∈ T, PySem.W.CodeHd s.heap p.1 p.2)
    (bmod : ∃ (bm : Addr) (ob : Obj), mg "__builtins__" = some (.ref bm) ∧ bm ≠ builtinsNs ∧ s.heap.get? bm = some ob ∧ ob.cls = .type "module" ∧ ob.dict = some builtinsNs ∧ ob.data = .plain)
    (obj : s.heap.get? a = some { cls := .type "list", data := .seq vs.toArray }) (ivs : IntsAre vs ns) (few : ns.length ≤ sizeLine) (room : Room k callerA)
    (F : ∀ base : Heap, K.In base → base.Ns mainGlobals mg → (∀ p ∈ T, TabB base mg p.1 p.2) → FnG P w K mg base k fa fd [x] sp) (bnd : ∀ (s : Shared) (u : Value), BindsTo s fd ⟨[u], []⟩ [(x, u)])
    (want : ∀ H : Hp, (∀ p ∈ T, H p.2 = some (.tbl #[])) → SqL K H a (ns.map V.int) → sp [.ref a] H (fun v _ => v = .bl true) fun _ _ _ => False) :
    codeAny (model P w) callerA (.call (.ref fa) ⟨[.ref a], []⟩) (fun r s' => r = .ok (.ret (.bool true)) ∧ OldK s.heap s'.heap ∧ s'.os = s.os ∧ AllBare s'.gens) s := by
  have rel := vals_ints ivs
  have len := ivs.length
  let D : List Addr := T.map Prod.snd
  have onD : ∀ {p : Addr × Addr}, p ∈ T → p.2 ∈ D := fun hp => List.mem_map_of_mem hp
  have atD : ∀ {c : Addr}, c ∈ D → s.heap.get? c = some TblO := by
    intro c hc
    obtain ⟨p, hp, rfl⟩ := List.mem_map.mp hc
    exact tab p hp
  have offD : a ∉ D := fun hc => by
    have e := (atD hc).symm.trans obj
    exact nomatch (show Data.fields #[] = Data.seq vs.toArray _ from congrArg Obj.data (Option.some.inj e))
  suffices core : ∀ H : Hp, (∀ p ∈ T, H p.2 = some (.tbl #[])) → (∀ c u, H c = some u → c ∈ D ∨ (c = a ∧ K.lookup a = none ∧ ∃ o xs, u = .frz o (.lst xs))) → SqL K H a (ns.map V.int) → HOk P w H s.heap →
      codeAny (model P w) callerA (.call (.ref fa) ⟨[.ref a], []⟩) (fun r s' => r = .ok (.ret (.bool true)) ∧ OldK s.heap s'.heap ∧ s'.os = s.os ∧ AllBare s'.gens) s by
    have inn : ∀ {c : Addr}, c ∈ D → (if c ∈ D then some (HO.tbl #[]) else none) = some (HO.tbl #[]) := fun h => if_pos h
    cases hk : K.lookup a with
    | some o =>
      have e := inK a o hk
      rw [obj] at e
      cases e
      refine core (fun c => if c ∈ D then some (.tbl #[]) else none) (fun p hp => inn (onD hp)) (fun c u z => ?_) (Or.inr ⟨_, vs.toArray, _, hk, rfl, rfl, rfl, by rw [List.size_toArray, len]; exact few, by simpa using rel⟩) (fun c u z => ?_)
      · by_cases hc : c ∈ D
        · exact Or.inl hc
        · exact nomatch (if_neg hc).symm.trans z
      · by_cases hc : c ∈ D
        · cases (inn hc).symm.trans z
          exact atD hc
        · exact nomatch (if_neg hc).symm.trans z
    | none =>
      let fz : HO := .frz { cls := .type "list", data := .seq vs.toArray } (.lst (ns.map V.int))
      have two : ∀ {c u}, (if c = a then some fz else if c ∈ D then some (HO.tbl #[]) else none) = some u → (c = a ∧ u = fz) ∨ (c ≠ a ∧ c ∈ D ∧ u = .tbl #[]) := by
        intro c u z
        by_cases h1 : c = a
        · exact Or.inl ⟨h1, (Option.some.inj ((if_pos h1).symm.trans z)).symm⟩
        · have z2 := (if_neg h1).symm.trans z
          by_cases h2 : c ∈ D
          · exact Or.inr ⟨h1, h2, (Option.some.inj ((if_pos h2).symm.trans z2)).symm⟩
          · exact nomatch (if_neg h2).symm.trans z2
      refine core (fun c => if c = a then some fz else if c ∈ D then some (.tbl #[]) else none) (fun p hp => ?_) (fun c u z => ?_) (Or.inl (Or.inr ⟨_, if_pos rfl⟩)) (fun c u z => ?_)
      · have h1 : p.2 ≠ a := fun e => offD (e ▸ onD hp)
        exact (if_neg h1).trans (inn (onD hp))
      · rcases two z with ⟨h1, h2⟩ | ⟨_, h2, _⟩
        · exact Or.inr ⟨h1, hk, _, _, h2⟩
        · exact Or.inl h2
      · rcases two z with ⟨h1, h2⟩ | ⟨_, h2, h3⟩
        · subst h1; subst h2
          exact ⟨obj, by rw [List.length_map]; exact few, vs, _, rel, obj⟩
        · subst h3
          exact atD h2
  intro H ht hs sq hok
  have free : ∀ {c : Addr} {o : Obj}, s.heap.get? c = some o → (∀ u n, o.data ≠ .seq u n) → o.data ≠ .fields #[] → H c = none := by
    intro c o e n1 n2
    cases q : H c with
    | none => rfl
    | some u =>
      rcases hs c u q with hc | ⟨rfl, _⟩
      · rw [atD hc] at e; cases e; exact absurd rfl n2
      · rw [obj] at e; cases e; exact absurd rfl (n1 _ _)
  have dicts : ∀ {c : Addr} {o : Obj} {es : Array DictEntry} {n : Nat}, s.heap.get? c = some o → o.data = .dict es n → H c = none := by
    intro c o es n e d
    refine free e (fun u m z => ?_) (fun z => ?_) <;> exact nomatch d.symm.trans z
  have hid : ∀ {c : Addr} {m : Str → Option Value}, s.heap.Ns c m → (hidT s.heap H).Ns c m := by
    rintro c m ⟨o, es, n, e, d, r⟩
    exact ⟨o, es, n, hidT_get e (dicts e d), d, r⟩
  have kin : K.In (hidT s.heap H) := by
    intro c o e
    refine hidT_get (inK c o e) ?_
    cases q : H c with
    | none => rfl
    | some u =>
      rcases hs c u q with hc | ⟨rfl, h2, _⟩
      · obtain ⟨p, hp, rfl⟩ := List.mem_map.mp hc
        rw [out p hp] at e; cases e
      · rw [h2] at e; cases e
  obtain ⟨mc, l1, l2⟩ := lim
  have md : Mod K mg (hidT s.heap H) := ⟨kin, hid glob, ⟨mb, hid blt, bltx⟩, mc, hid l1, l2⟩
  have tb : ∀ p ∈ T, TabB (hidT s.heap H) mg p.1 p.2 := by
    intro p hp
    refine ⟨?_, ?_, fun z => ?_⟩
    · obtain ⟨o, us, file, tf, flags, tg, inF, text, tt, e1, r1, r2, r3, rest⟩ := cod p hp
      refine ⟨o, us, file, tf, flags, tg, inF, text, tt, hidT_get e1 (free e1 (fun u n z => nomatch r2.symm.trans z) fun z => ?_), r1, r2, r3, rest⟩
      have z2 := r2.symm.trans z
      cases z2
      simp at r3
    · obtain ⟨bm, ob, b1, b2, b3, b4, b5, b6⟩ := bmod
      refine ⟨bm, ob, b1, b2, fun e => ?_, fun e => ?_, hidT_get b3 (free b3 (fun u n z => nomatch b6.symm.trans z) fun z => nomatch b6.symm.trans z), b4, b5, b6⟩
      · obtain ⟨o, es, n, g1, g2, _⟩ := glob
        rw [e, g1] at b3; cases b3
        exact nomatch g2.symm.trans b6
      · rw [e, tab p hp] at b3; cases b3; cases b6
    · obtain ⟨o, es, n, g1, g2, _⟩ := glob
      rw [z, tab p hp] at g1; cases g1; cases g2
  have env0 : Env0 P w K mg (hidT s.heap H) callerA [] s H := ⟨rfl, md, fun c o e => of_hidT e, Nat.le_of_eq (hidT_size _ _), trivial, fun c hc => absurd (show c ∈ ([] : List Addr) from hc) List.not_mem_nil, hok, .of_eq gens⟩
  refine codeAny_mono ((F _ kin (hid glob) tb).run callerA [] s H ⟨[.ref a], []⟩ [.ref a] [.ref a] _ _ rfl room env0 (bnd s (.ref a)) (.cons rfl .nil) (want H ht sq)) ?_
  intro r s' done
  match r, done with
  | .error _, z => exact False.elim z
  | .ok .next, z => exact False.elim z
  | .ok .brk, z => exact False.elim z
  | .ok .cont, z => exact False.elim z
  | .ok (.ret u), ⟨v, H', os, bare, un, hok', rv, q⟩ =>
    have q' : v = .bl true := q
    subst q'
    obtain rfl : u = Value.bool true := rv
    have stay : ∀ c o, c ∉ D → s.heap.get? c = some o → s'.heap.get? c = some o := by
      intro c o hc e
      cases q : H c with
      | none => exact un.keep c o e q (fun z => absurd (show c ∈ ([] : List Addr) from z) List.not_mem_nil) List.not_mem_nil
      | some u =>
        rcases hs c u q with h1 | ⟨_, _, ob, xs, rfl⟩
        · exact absurd h1 hc
        · have e1 := (hok c _ q).1
          have e2 := (hok' c _ (un.frzs c ob _ q)).1
          rw [e] at e1; cases e1; exact e2
    have grow : ∀ p ∈ T, ∃ more : Array Value, s'.heap.get? p.2 = some { cls := .none, data := .fields more } := by
      intro p hp
      obtain ⟨more, z⟩ := un.tbls p.2 #[] (ht p hp)
      exact ⟨_, hok' p.2 _ z⟩
    refine ⟨rfl, ⟨fun c o e => ?_, fun c o e => ?_⟩, os, bare⟩
    · by_cases hc : c ∈ D
      · obtain ⟨p, hp, rfl⟩ := List.mem_map.mp hc
        obtain ⟨more, hm⟩ := grow p hp
        rw [tab p hp] at e; cases e
        exact Or.inr (Or.inl ⟨((cod p hp).tab (tab p hp)).isCodeTable, rfl, #[], more, rfl, by rw [Array.empty_append]; exact hm⟩)
      · exact Or.inl (stay c o hc e)
    · by_cases hc : c ∈ D
      · obtain ⟨p, hp, rfl⟩ := List.mem_map.mp hc
        obtain ⟨more, hm⟩ := grow p hp
        exact ⟨_, hm⟩
      · exact ⟨o, stay c o hc e⟩
def LawG (l : PySem.W.OpenLaw) (w : World) (K : PySem.W.Frag) (k n : Nat) (x : Str) (mg : Str → Option Value) (fa : Addr) (h : Heap) : Prop :=
  ∃ (fd : FuncData) (T : List (Addr × Addr)) (sp : Sp), (∀ p ∈ T, h.get? p.2 = some TblO) ∧ (∀ p ∈ T, K.lookup p.2 = none) ∧ (∀ p ∈ T, PySem.W.CodeHd h p.1 p.2) ∧ (∀ (s : Shared) (u : Value), BindsTo s fd ⟨[u], []⟩ [(x, u)]) ∧
    (∀ (H : Hp) (a : Addr) (ns : List Int), ns.length ≤ n → (∀ p ∈ T, H p.2 = some (.tbl #[])) → SqL K H a (ns.map V.int) → sp [.ref a] H (fun v _ => v = .bl true) fun _ _ _ => False) ∧
    ∀ base : Heap, K.In base → base.Ns mainGlobals mg → (∀ p ∈ T, TabB base mg p.1 p.2) → FnG l.prog w K mg base k fa fd [x] sp
theorem walkGT {l : PySem.W.OpenLaw} {n k : Nat} {q : Program} {loose : List Str} {XP : (Str → Option Value) → Heap → Prop} {YP : World → Heap → Prop} {d : DefRec} {x : Str}
    (most : l.most = some n) (few : n ≤ sizeLine) (nodef : d.params.defaults = []) (room : Room k callerA)
    (F : ∀ (w : World) (mg : Str → Option Value) (fa : Addr) (h : Heap), YP w h → h.Ns mainGlobals mg → mg d.name = some (.ref fa) → ∃ K : PySem.W.Frag, K.In h ∧ LawG l w K k n x mg fa h) :
    PySem.W.WalkO q loose XP YP l.row.toRowW d [] (fun f vs => PySem.call f vs) := by
  refine Att.attach_callB most nodef ?_
  intro w s0 s1 mg mb fa o pm cd doc a vs ns G Y ho hd hcd gl obj ivs small bits gens
  obtain ⟨K, KX, fd, T, sp, h1, h2, h3, bnd, want, walk⟩ := F w mg fa _ Y G.T.g gl
  exact callGT KX G.T.g G.T.b G.T.builtins G.T.nolimit gens h1 h2 h3 G.T.bmain obj ivs (Nat.le_trans small few) room walk bnd (fun H hH sq => want H a ns small hH sq)
end HP
namespace HP
open PySem PySem.Spec PyProof.Rows L2 NdefX LamX
/-! ### the six kinds of rounding -/
def kinds : List Str := ["grid", "half", "double", "down", "up", "off"]
def ab (d : Rat) : Rat := if d < 0 then -d else d
def sg (d x : Rat) : Rat := if d < 0 then -x else x
def rk (k : Str) (D : Rat) : Rat := if k = "grid" then nea 64 0 D else if k = "half" then nea 64 32 D else if k = "double" then nea 32 0 D else if k = "down" then flq D 64 else if k = "up" then -(flq (-D) 64) else D
def kp (f l d : Rat) : Rat := if ab f < l then sg d l else f
theorem ab_nn (d : Rat) : 0 ≤ ab d := by unfold ab; split <;> grind
theorem rk_grid (D : Rat) : rk "grid" D = nea 64 0 D := if_pos rfl
theorem rk_half (D : Rat) : rk "half" D = nea 64 32 D := by unfold rk; rw [if_neg (by decide), if_pos rfl]
theorem rk_double (D : Rat) : rk "double" D = nea 32 0 D := by unfold rk; rw [if_neg (by decide), if_neg (by decide), if_pos rfl]
theorem rk_down (D : Rat) : rk "down" D = flq D 64 := by unfold rk; rw [if_neg (by decide), if_neg (by decide), if_neg (by decide), if_pos rfl]
theorem rk_up (D : Rat) : rk "up" D = -(flq (-D) 64) := by unfold rk; rw [if_neg (by decide), if_neg (by decide), if_neg (by decide), if_neg (by decide), if_pos rfl]
theorem rk_off (D : Rat) : rk "off" D = D := by unfold rk; rw [if_neg (by decide), if_neg (by decide), if_neg (by decide), if_neg (by decide), if_neg (by decide)]
theorem kinds_of {k : Str} (h : k ∈ kinds) : k = "grid" ∨ k = "half" ∨ k = "double" ∨ k = "down" ∨ k = "up" ∨ k = "off" := by
  simpa only [kinds, List.mem_cons, List.not_mem_nil, or_false] using h
def spKd (k : Str) : Sp := fun vs H Q _ => ∃ x d, vs = [x] ∧ NQ H x d ∧ BQ 300 d ∧ ∀ v H', Same H H' → NQ H' v (sg d (rk k (ab d))) → Q v H'
/-- a def that rounds by the kind -/
inductive Kd (st : Stmt) (aD aU aF : Addr) (H : Hp) : Str → Addr → Prop
  | grid {a : Addr} (h : Nea st H a 64 0) : Kd st aD aU aF H "grid" a
  | half {a : Addr} (h : Nea st H a 64 32) : Kd st aD aU aF H "half" a
  | double {a : Addr} (h : Nea st H a 32 0) : Kd st aD aU aF H "double" a
  | down : Kd st aD aU aF H "down" aD
  | up : Kd st aD aU aF H "up" aU
  | off : Kd st aD aU aF H "off" aF
section
variable {st : Stmt} {aD aU aF : Addr} {H H' : Hp} {k : Str} {a : Addr}
theorem Kd.map (h : Kd st aD aU aF H k a) (m : ∀ {a s f}, Nea st H a s f → Nea st H' a s f) : Kd st aD aU aF H' k a := by
  cases h with
  | grid h => exact .grid (m h)
  | half h => exact .half (m h)
  | double h => exact .double (m h)
  | down => exact .down
  | up => exact .up
  | off => exact .off
theorem Kd.same (h : Kd st aD aU aF H k a) (s : Same H H') : Kd st aD aU aF H' k a := h.map fun n => n.same s
theorem Kd.gon {bx : Addr} {n : Int} (h : Kd st aD aU aF H k a) (B : Box H bx n) (g : GoN bx H H') : Kd st aD aU aF H' k a := h.map fun x => x.gon B g
theorem Nea.extn {s f : Rat} (h : Nea st H a s f) (e : ExtN H H') : Nea st H' a s f := by
  obtain ⟨qual, cl, c, vb, vs, vf, h1, h2, h3, h4, h5, h6, h7⟩ := h
  have j : ∀ {b : Addr} {φ : Heap → Prop}, H b = some (.ext φ) → H' b = some (.ext φ) := fun {b φ} z => e _ _ z (fun _ y => by cases y)
  exact ⟨qual, cl, c, vb, vs, vf, j h1, j h2, h3.ext fun b v z => j z, h4.extn e, h5.extn e, h6.extn e, h7⟩
theorem Kd.extn (h : Kd st aD aU aF H k a) (e : ExtN H H') : Kd st aD aU aF H' k a := h.map fun n => n.extn e
theorem Kd.mem (h : Kd st aD aU aF H k a) : k ∈ kinds := by cases h <;> decide
end
section
variable {P : Program} {w : World} {K : PySem.W.Frag} {mg : Str → Option Value} {base : Heap}
theorem DeedAt.mono {k j : Nat} {H : Hp} {f : Addr} {sp : Sp} (d : DeedAt P w K mg base k H f sp) (l : k ≤ j) : DeedAt P w K mg base j H f sp := ⟨d.fn, fun A outer s us vs Q hr e0 r q => d.run A outer s us vs Q (hr.mono l) e0 r q⟩
/-- the deeds of the three kinds that are defs of the top -/
structure Tops (P : Program) (w : World) (K : PySem.W.Frag) (mg : Str → Option Value) (base : Heap) (aD aU aF : Addr) : Prop where
  d : ∀ H, DeedAt P w K mg base 6 H aD (spN 1 (spKd "down"))
  u : ∀ H, DeedAt P w K mg base 6 H aU (spN 1 (spKd "up"))
  f : ∀ H, DeedAt P w K mg base 6 H aF (spN 1 (spKd "off"))
theorem Kd.deed {st : Stmt} {aD aU aF : Addr} {H : Hp} {k : Str} {a : Addr} (nk : ∀ a qual cl c, NOk P w K mg base CX0 6 a (nf st qual cl c) ["distance"] ["begin", "period", "phase"] spNearN) (t : Tops P w K mg base aD aU aF) (h : Kd st aD aU aF H k a) :
    DeedAt P w K mg base 6 H a (spKd k) := by
  have one : ∀ {k' vs E} {Q : VK}, spKd k' vs H Q E → spN 1 (spKd k') vs H Q E := fun {k' vs E Q} z => ⟨by obtain ⟨x, d, rfl, _⟩ := z; rfl, z⟩
  cases h with
  | grid h => exact (h.deed nk).imp fun vs Q E ⟨x, d, e, N, B, q⟩ => ⟨x, d, e, N, B.mono (by decide), fun v H' S M => q v H' S (by rw [rk_grid]; exact M)⟩
  | half h => exact (h.deed nk).imp fun vs Q E ⟨x, d, e, N, B, q⟩ => ⟨x, d, e, N, B.mono (by decide), fun v H' S M => q v H' S (by rw [rk_half]; exact M)⟩
  | double h => exact (h.deed nk).imp fun vs Q E ⟨x, d, e, N, B, q⟩ => ⟨x, d, e, N, B.mono (by decide), fun v H' S M => q v H' S (by rw [rk_double]; exact M)⟩
  | down => exact (t.d H).imp fun vs Q E z => one z
  | up => exact (t.u H).imp fun vs Q E z => one z
  | off => exact (t.f H).imp fun vs Q E z => one z
end
/-! ### a local def, called, whatever it does -/
def tCallE (P : Program) (w : World) (K : PySem.W.Frag) (mg : Str → Option Value) (base : Heap) (k : Nat) (i : Nat) (t : TA) : TE := fun σ H Q => ∃ f, σ[i]? = some (some (.ref f)) ∧ (∀ h, K.In h → HOk P w H h → PySem.W.FnAt f h) ∧ t σ H fun vs H1 => ∃ sp, DeedAt P w K mg base k H1 f sp ∧ sp vs H1 Q E0
section
variable {X : Cx} {k j i : Nat} {x : Str} {p pos : Pos} {e : Expr} {es : List Expr} {t : TA}
theorem pe_callE (hr : Room j X.A) (hk : k ≤ j) (hN : X.N[i]? = some x) (hv : Vis X.env.scope x) (ha : PA X (e :: es) t)
    (hd : (x == ("__debug__" : Str)) = false := by decide) (hcd : (x == ("__classdict__" : Str)) = false := by decide)
    (he : starEach (e :: es) X.env = (false, eval e X.env) :: starEach es X.env := by rfl) (hpl : (backTo pos (starEach es X.env)).any (·.1) = false := by rfl) :
    PE X (.Call (.Name x p) (e :: es) [] pos) (tCallE X.prog X.w X.K X.mg X.base k i t) := by
  refine ⟨fun pins s σ H Q I h => ?_⟩
  obtain ⟨f, hs, hf, ht⟩ := h
  refine wpAny_Call_Name_kw (thn ((pe_var (pos := p) hN hv hd hcd).run pins s σ H (fun v H1 => v = .ref f ∧ H1 = H) I ⟨.ref f, hs, rfl, rfl⟩) fun u s1 ⟨v, H1, I1, r1, q1⟩ => ?_)
  obtain ⟨ev, eH⟩ := q1
  subst ev
  rw [eH] at I1
  obtain rfl : u = Value.ref f := r1
  refine PySem.W.callWith_F (first := []) (hf _ I1.kIn I1.hok) (thn (ha.run pos pins s1 σ H _ I1 ht) fun us s2 ⟨vs, H2, I2, r, sp, d, q⟩ => ⟨d.fn _ I2.kIn I2.hok, ?_⟩) he hpl
  show wpAny _ _ (call (.ref f) us) _ _ _
  refine wpAny_call (codeAny_mono (d.run X.A X.stack s2 us vs Q (hr.mono hk) I2.env0 r q) fun res s' hq => ?_)
  match res, hq with
  | .error er, hq => exact False.elim hq
  | .ok (.ret u), hq => exact I2.after hq
  | .ok .next, hq => exact False.elim hq
  | .ok .brk, hq => exact False.elim hq
  | .ok .cont, hq => exact False.elim hq
end
/-! ### tables of the top -/
def rInKD (K : PySem.W.Frag) (w : World) : R2 := fun x y H Q => ∃ (z : Str) (d : Addr) (r : Option Value) (b : Bool), x = .str z ∧ y = .ref d ∧ (∃ es n, KDict K w d es n) ∧ PySem.W.nsIn K d z = some r ∧ r.isSome = b ∧ Q (.bl b) H
theorem op_inKD {X : Cx} : OpR X (compareOp .In) (rInKD X.K X.w) := by
  intro pins s σ H x y v u Q I rx ry h
  obtain ⟨z, d, r, b, ex, ey, ⟨es, n, D⟩, e, eb, q⟩ := h
  subst eb
  exact op_in_kd D pins s σ H x y v u Q I rx ry ⟨z, r, ex, ey, e, q⟩
structure Tbls (K : PySem.W.Frag) (w : World) (aP aO aD aU aF : Addr) : Prop where
  dP : ∃ es n, KDict K w aP es n
  dO : ∃ es n, KDict K w aO es n
  g : ∃ t, KDct K w aP "grid" (.ref t) ∧ PySem.W.nsIn K aP "grid" = some (some (.ref t)) ∧ ∀ H, SqT K H t [.int 64, .int 0]
  h : ∃ t, KDct K w aP "half" (.ref t) ∧ PySem.W.nsIn K aP "half" = some (some (.ref t)) ∧ ∀ H, SqT K H t [.int 64, .int 32]
  b : ∃ t, KDct K w aP "double" (.ref t) ∧ PySem.W.nsIn K aP "double" = some (some (.ref t)) ∧ ∀ H, SqT K H t [.int 32, .int 0]
  nd : PySem.W.nsIn K aP "down" = some none
  nu : PySem.W.nsIn K aP "up" = some none
  nf : PySem.W.nsIn K aP "off" = some none
  d : KDct K w aO "down" (.ref aD) ∧ PySem.W.nsIn K aO "down" = some (some (.ref aD))
  u : KDct K w aO "up" (.ref aU) ∧ PySem.W.nsIn K aO "up" = some (some (.ref aU))
  f : KDct K w aO "off" (.ref aF) ∧ PySem.W.nsIn K aO "off" = some (some (.ref aF))
def spIsKd : Sp := fun vs H Q _ => ∃ k, vs = [.str k] ∧ k ∈ kinds ∧ Q (.bl true) H
def spRndr (st : Stmt) (aD aU aF : Addr) (T : List NTab) : Sp := fun vs H Q _ => ∃ k, vs = [.str k] ∧ k ∈ kinds ∧ TabsN T H ∧ ∀ a H', ExtN H H' → TabsN T H' → Kd st aD aU aF H' k a → Q (.ref a) H'
def spKept : Sp := fun vs H Q _ => ∃ x y z f l d, vs = [x, y, z] ∧ NQ H x f ∧ NQ H y l ∧ NQ H z d ∧ BQ 1400 f ∧ BQ 300 l ∧ BQ 300 d ∧ ∀ v H', Same H H' → NQ H' v (kp f l d) → Q v H'
def spRndd (T : List NTab) : Sp := fun vs H Q _ => ∃ x k y d l, vs = [x, .str k, y] ∧ k ∈ kinds ∧ NQ H x d ∧ NQ H y l ∧ 0 ≤ l ∧ BQ 300 d ∧ BQ 300 l ∧ TabsN T H ∧ ∀ v H', ExtN H H' → TabsN T H' → NQ H' v (kp (sg d (rk k (ab d))) l d) → Q v H'
theorem BQ.ab {n : Nat} {d : Rat} (h : BQ n d) : BQ n (ab d) := by unfold HP.ab; split <;> first | exact h.neg | exact h
theorem BQ.sg {n : Nat} {d x : Rat} (h : BQ n x) : BQ n (sg d x) := by unfold HP.sg; split <;> first | exact h.neg | exact h
theorem rk_b {k : Str} {D : Rat} (hk : k ∈ kinds) (h : BQ 300 D) : BQ 1200 (rk k D) := by
  have b64 : BQ 120 64 := ⟨⟨by decide +kernel⟩, ⟨by decide +kernel⟩⟩
  have b32 : BQ 120 32 := ⟨⟨by decide +kernel⟩, ⟨by decide +kernel⟩⟩
  have b0 : BQ 130 0 := ⟨⟨by decide +kernel⟩, ⟨by decide +kernel⟩⟩
  have p64 : (0 : Rat) < 64 := by decide +kernel
  have p32 : (0 : Rat) < 32 := by decide +kernel
  rcases kinds_of hk with rfl | rfl | rfl | rfl | rfl | rfl
  · rw [rk_grid]; exact (nea_b p64 (h.mono (by decide)) b64 b0).mono (by decide)
  · rw [rk_half]; exact (nea_b p64 (h.mono (by decide)) b64 (b32.mono (by decide))).mono (by decide)
  · rw [rk_double]; exact (nea_b p32 (h.mono (by decide)) b32 b0).mono (by decide)
  · rw [rk_down]; exact (h.flq b64 p64).mono (by decide)
  · rw [rk_up]; exact ((h.neg.flq b64 p64).neg).mono (by decide)
  · rw [rk_off]; exact h.mono (by decide)
/-! ### a number as a text, however long: only its length matters -/
def rStrQ : List V → Hp → VK → Prop := fun xs H Q => ∃ v q, xs = [v] ∧ NQ H v q ∧ BQ 1900 q ∧ Q (.str (dN q.num (q.den : Int)).shown) H
theorem call_strQ {X : Cx} (hg : X.A.guards = some []) (hu : X.A.units + 64 < cLine) : CallR X (.type "str") rStrQ := by
  intro pins s σ H xs us Q I r h
  obtain ⟨v, q, rfl, N, B, h⟩ := h
  obtain ⟨u, rfl, rx⟩ := vals1 r
  have g := gd_num B.t B.b
  have D : Dp X.K H v _ := Num.dp N
  generalize dN q.num (q.den : Int) = d at g D h
  rcases N with ⟨rfl, e⟩ | ⟨a, rfl, ha, hb, hc⟩
  · obtain ⟨t, rfl⟩ := rx
    cases D
    exact PySem.P.str_of_int (by simpa [PyData.showable] using g.s) ⟨.str _, H, I.tok _, ⟨_, rfl⟩, h⟩
  · cases (show u = Value.ref a from rx)
    obtain ⟨as, rd⟩ := Dp.reads I d _ _ D rfl
    exact str_of_reads rd g.s (fun z => by rw [g.h] at z; cases z) hg (by have := g.dp; omega) (fun _ _ e => e) (fun h' u tk k => ⟨.str d.shown, H, I.kept k, ⟨u, rfl⟩, h⟩) (g.len (by decide))
theorem shQ_len {q : Rat} (B : BQ 1900 q) : (dN q.num (q.den : Int)).shown.length ≤ 100000 := by
  have g := gd_num B.t B.b
  have h1 := PyData.shown_le_bulk 2000 (by decide) _ g.l
  have h2 := g.b
  have h3 : (2000 + 2) * (dN q.num (q.den : Int)).bulk ≤ (2000 + 2) * 2 := Nat.mul_le_mul_left _ (by omega)
  omega
end HP
namespace HP
open PySem PySem.Spec PyProof.Rows L2
/-! ### what the law reckons of a kind, in whole numbers -/
theorem D_le {A b x : Int} {D : Rat} (hb : 0 < b) (e : D * (b : Rat) = (A : Rat)) (h : x * b ≤ A) : (x : Rat) ≤ D := by
  have hb' : (0 : Rat) < (b : Rat) := by exact_mod_cast hb
  have h' : (x : Rat) * (b : Rat) ≤ D * (b : Rat) := by rw [e]; exact_mod_cast h
  exact Rat.le_of_mul_le_mul_right h' hb'
theorem D_lt {A b x : Int} {D : Rat} (hb : 0 < b) (e : D * (b : Rat) = (A : Rat)) (h : A < x * b) : D < (x : Rat) := by
  refine Rat.not_le.mp fun z => ?_
  have hb' : (0 : Rat) ≤ (b : Rat) := by exact_mod_cast Int.le_of_lt hb
  have h2 := Rat.mul_le_mul_of_nonneg_right z hb'
  rw [e] at h2
  have h3 : x * b ≤ A := by exact_mod_cast h2
  omega
theorem flq_eqI {x : Rat} {n c : Int} (hc : 0 < c) (h1 : ((n * c : Int) : Rat) ≤ x) (h2 : x < (((n + 1) * c : Int) : Rat)) : flq x (c : Rat) = ((n * c : Int) : Rat) := by
  have hc' : (0 : Rat) < (c : Rat) := by exact_mod_cast hc
  have hc0 : (c : Rat) ≠ 0 := int_ne (by omega)
  have e : x / (c : Rat) * (c : Rat) = x := by grind
  have key : (x / (c : Rat)).floor = n := by
    refine Int.le_antisymm ?_ ?_
    · refine Int.le_of_lt_add_one ?_
      have h3 := Rat.floor_le (x / (c : Rat))
      have h4 := Rat.mul_le_mul_of_nonneg_right h3 (Rat.le_of_lt hc')
      rw [e] at h4
      have h5 : (((x / (c : Rat)).floor * c : Int) : Rat) < (((n + 1) * c : Int) : Rat) := by
        rw [Rat.intCast_mul]; grind
      have h6 : (x / (c : Rat)).floor * c < (n + 1) * c := by exact_mod_cast h5
      exact Int.lt_of_mul_lt_mul_right h6 (Int.le_of_lt hc)
    · rw [Rat.le_floor_iff]
      refine Rat.le_of_mul_le_mul_right ?_ hc'
      rw [e, ← Rat.intCast_mul]; exact h1
  unfold flq
  rw [key, Rat.intCast_mul]
section
variable {A b M : Int} {D : Rat} (hb : 0 < b) (e : D * (b : Rat) = (A : Rat)) (hM : 0 ≤ M) (h0 : M * 64 * b ≤ A) (h1 : A < (M + 1) * 64 * b)
include hb e h0 h1
theorem due_down : rk "down" D = ((M * 64 : Int) : Rat) := by
  rw [rk_down]
  exact flq_eqI (c := 64) (by decide) (D_le hb e h0) (D_lt hb e h1)
theorem due_upE (z : ¬ M * 64 * b < A) : rk "up" D = ((M * 64 : Int) : Rat) := by
  rw [rk_up]
  have e1 := D_le hb e h0
  have e2 : D ≤ ((M * 64 : Int) : Rat) := Rat.not_lt.mp fun y => by
    have hb' : (0 : Rat) < (b : Rat) := by exact_mod_cast hb
    have h2 := Rat.mul_lt_mul_of_pos_right y hb'
    rw [e] at h2
    have h3 : M * 64 * b < A := by exact_mod_cast h2
    exact z h3
  have h3 : flq (-D) ((64 : Int) : Rat) = (((-M) * 64 : Int) : Rat) := by
    refine flq_eqI (by decide) ?_ ?_
    · rw [Int.neg_mul, Rat.intCast_neg]; grind
    · rw [show (-M + 1) * 64 = -(M * 64) + 64 by omega, Rat.intCast_add, Rat.intCast_neg, show ((64 : Int) : Rat) = 64 from rfl]; grind
  rw [show (64 : Rat) = ((64 : Int) : Rat) from rfl, h3, Int.neg_mul, Rat.intCast_neg]; grind
theorem due_upN (z : M * 64 * b < A) : rk "up" D = ((M * 64 + 64 : Int) : Rat) := by
  rw [rk_up]
  have e1 : ((M * 64 : Int) : Rat) < D := Rat.not_le.mp fun y => by
    have hb' : (0 : Rat) ≤ (b : Rat) := by exact_mod_cast Int.le_of_lt hb
    have h2 := Rat.mul_le_mul_of_nonneg_right y hb'
    rw [e] at h2
    have h3 : A ≤ M * 64 * b := by exact_mod_cast h2
    omega
  have e2 := D_lt hb e h1
  have h3 : flq (-D) ((64 : Int) : Rat) = (((-M - 1) * 64 : Int) : Rat) := by
    refine flq_eqI (by decide) ?_ ?_
    · rw [show (-M - 1) * 64 = -((M + 1) * 64) by omega, Rat.intCast_neg]; grind
    · rw [show (-M - 1 + 1) * 64 = -(M * 64) by omega, Rat.intCast_neg]; grind
  rw [show (64 : Rat) = ((64 : Int) : Rat) from rfl, h3, show (-M - 1) * 64 = -(M * 64 + 64) by omega, Rat.intCast_neg]; grind
include hM
theorem due_half : rk "half" D = ((M * 64 + 32 : Int) : Rat) := by
  rw [rk_half]
  have h3 := flq_eqI (x := D) (c := 64) (by decide) (D_le hb e h0) (D_lt hb e h1)
  have h4 : (0 : Rat) ≤ ((M * 64 : Int) : Rat) := by exact_mod_cast (by omega : 0 ≤ M * 64)
  have h5 : D - (32 - 64 / 2) = D := by grind
  unfold nea
  rw [h5, show (64 : Rat) = ((64 : Int) : Rat) from rfl, h3, if_neg (Rat.not_lt.mpr h4), Rat.intCast_add, show ((32 : Int) : Rat) = 32 from rfl]
  grind
theorem nea_0 {D : Rat} {s h n : Int} (hs : 0 < s) (e2 : (s : Rat) / 2 = (h : Rat)) (h1 : ((n * s - h : Int) : Rat) ≤ D) (h2 : D < (((n + 1) * s - h : Int) : Rat)) (hn : 0 ≤ n) : nea (s : Rat) 0 D = ((n * s : Int) : Rat) := by
  have h3 : flq (D - (0 - (s : Rat) / 2)) (s : Rat) = ((n * s : Int) : Rat) := by
    refine flq_eqI hs ?_ ?_
    · rw [e2]; rw [Rat.intCast_sub] at h1; grind
    · rw [e2]; rw [Rat.intCast_sub] at h2; grind
  have h4 : (0 : Rat) ≤ ((n * s : Int) : Rat) := by exact_mod_cast Int.mul_nonneg hn (Int.le_of_lt hs)
  unfold nea
  rw [h3, if_neg (Rat.not_lt.mpr h4)]
  grind
theorem due_gridY (z : 2 * (A - M * 64 * b) ≥ 64 * b) : rk "grid" D = ((M * 64 + 64 : Int) : Rat) := by
  rw [rk_grid, show M * 64 + 64 = (M + 1) * 64 by omega]
  refine nea_0 (s := 64) (h := 32) hb e hM h0 h1 (by decide) (by decide +kernel) (D_le hb e ?_) (D_lt hb e ?_) (by omega)
  · rw [show (M + 1) * 64 - 32 = M * 64 + 32 by omega, Int.add_mul]; omega
  · have : (M + 1) * 64 * b ≤ ((M + 1 + 1) * 64 - 32) * b := Int.mul_le_mul_of_nonneg_right (by omega) (by omega)
    omega
theorem due_gridN (z : ¬ 2 * (A - M * 64 * b) ≥ 64 * b) : rk "grid" D = ((M * 64 : Int) : Rat) := by
  rw [rk_grid]
  refine nea_0 (s := 64) (h := 32) hb e hM h0 h1 (by decide) (by decide +kernel) (D_le hb e ?_) (D_lt hb e ?_) hM
  · have : (M * 64 - 32) * b ≤ M * 64 * b := Int.mul_le_mul_of_nonneg_right (by omega) (by omega)
    omega
  · rw [show (M + 1) * 64 - 32 = M * 64 + 32 by omega, Int.add_mul]; omega
theorem due_double {i j : Int} (hi : i = if 4 * (A - M * 64 * b) ≥ 64 * b then 1 else 0) (hj : j = if 4 * (A - M * 64 * b) ≥ 3 * 64 * b then 1 else 0) : rk "double" D = ((M * 64 + 32 * i + 32 * j : Int) : Rat) := by
  have h2 : (M + 1) * 64 * b = M * 64 * b + 64 * b := by rw [show (M + 1) * 64 = M * 64 + 64 by omega, Int.add_mul]
  have h3 : 3 * 64 * b = 192 * b := by omega
  rw [rk_double, show M * 64 + 32 * i + 32 * j = (2 * M + i + j) * 32 by omega]
  have hb32 : (2 * M + i + j) * 32 = M * 64 + 32 * (i + j) := by omega
  refine nea_0 (s := 32) (h := 16) hb e hM h0 h1 (by decide) (by decide +kernel) (D_le hb e ?_) (D_lt hb e ?_) (by subst hi hj; split <;> split <;> omega)
  · rw [show (2 * M + i + j) * 32 - 16 = M * 64 + (32 * (i + j) - 16) by omega, Int.add_mul]
    subst hi hj
    split <;> split <;> omega
  · rw [show (2 * M + i + j + 1) * 32 - 16 = M * 64 + (32 * (i + j) + 16) by omega, Int.add_mul]
    subst hi hj
    split <;> split <;> omega
end
def spDue10 : Sp := fun vs H Q _ => ∃ k v d, vs = [.str k, v] ∧ k ∈ kinds ∧ NQ H v d ∧ BQ 300 d ∧ ∀ z H', Same H H' → NQ H' z (sg d (rk k (ab d))) → Q z H'
def spKept10 : Sp := fun vs H Q _ => ∃ x y z f l d, vs = [x, y, z] ∧ NQ H x f ∧ NQ H y d ∧ NQ H z l ∧ 0 ≤ l ∧ BQ 1400 f ∧ BQ 300 l ∧ BQ 300 d ∧ ∀ v H', Same H H' → NQ H' v (kp f l d) → Q v H'
theorem q_eqSF {H : Hp} {Q : VK} {x y : Str} (h : x ≠ y) (q : Q (.bl false) H) : rEq (.str x) (.str y) H Q := ⟨rfl, by rw [decide_eq_false (fun z => h (V.str.inj z))]; exact q⟩
theorem kp_law {f l : Rat} : (¬ (if f.num < 0 then -f.num else f.num) * (l.den : Int) ≥ l.num * (f.den : Int)) ↔ ab f < l := by
  have e : ab f = ((if f.num < 0 then -f.num else f.num : Int) : Rat) / ((f.den : Int) : Rat) := (abs_q f).symm
  have e2 := rat_nd l
  generalize (if f.num < 0 then -f.num else f.num) = A at *
  have p1 := den_pos' f
  have p2 := den_pos' l
  have r1 : (0 : Rat) < ((f.den : Int) : Rat) := by exact_mod_cast p1
  have r2 : (0 : Rat) < ((l.den : Int) : Rat) := by exact_mod_cast p2
  have m1 : ab f * ((f.den : Int) : Rat) = (A : Rat) := by rw [e]; have := den_ne f; grind
  have m2 : l * ((l.den : Int) : Rat) = (l.num : Rat) := by have := den_ne l; grind
  constructor
  · intro z
    refine Rat.not_le.mp fun y => z ?_
    have h1 := Rat.mul_le_mul_of_nonneg_right (Rat.mul_le_mul_of_nonneg_right y (Rat.le_of_lt r1)) (Rat.le_of_lt r2)
    have h2 : ((l.num * (f.den : Int) : Int) : Rat) ≤ ((A * (l.den : Int) : Int) : Rat) := by
      rw [Rat.intCast_mul, Rat.intCast_mul, ← m1, ← m2]; grind
    exact_mod_cast h2
  · intro z y
    have h1 := Rat.mul_lt_mul_of_pos_right (Rat.mul_lt_mul_of_pos_right z r1) r2
    have h2 : ((A * (l.den : Int) : Int) : Rat) < ((l.num * (f.den : Int) : Int) : Rat) := by
      rw [Rat.intCast_mul, Rat.intCast_mul, ← m1, ← m2]; grind
    have h3 : A * (l.den : Int) < l.num * (f.den : Int) := by exact_mod_cast h2
    omega
end HP
namespace HP
open PySem PySem.Spec PyProof.Rows L2
def spDist10 : Sp := fun vs H Q _ => ∃ bx n, vs = [.ref bx] ∧ Box H bx n ∧ n < 700000 ∧ ∀ v d H', NQ H' v d → BQ 200 d → Go bx H H' → Box H' bx (n + 150) → Q v H'
end HP
namespace HP
open PySem PySem.Spec PyProof.Rows L2
theorem bt_abs {k : Nat} {x m : Int} (h1 : -m < x) (h2 : x < m) (h : m ≤ 2 ^ k) : Bt k x := ⟨by
  have h3 : (x.natAbs : Int) < 2 ^ k := by omega
  exact_mod_cast h3⟩
end HP
namespace HP
open PySem PySem.Spec PyProof.Rows L2 NdefX LamX
theorem kp_0 {f d : Rat} : kp f 0 d = f := by
  unfold kp
  rw [if_neg (Rat.not_lt.mpr (ab_nn f))]
/-- the dict of the six defs -/
structure Six (st : Stmt) (aD aU aF : Addr) (H : Hp) (dd : Addr) : Prop where
  ex : ∃ kvs, H dd = some (.dK kvs) ∧ ∀ k ∈ kinds, ∃ a, valV kvs (.inr k) = some (.ref a) ∧ Kd st aD aU aF H k a
theorem Six.extn {st : Stmt} {aD aU aF dd : Addr} {H H' : Hp} (h : Six st aD aU aF H dd) (e : ExtN H H') : Six st aD aU aF H' dd := by
  obtain ⟨kvs, h1, h2⟩ := h.ex
  exact ⟨kvs, e _ _ h1 (fun _ z => by cases z), fun k hk => let ⟨a, h3, h4⟩ := h2 k hk; ⟨a, h3, h4.extn e⟩⟩
theorem Six.get {st : Stmt} {aD aU aF dd : Addr} {H : Hp} {k : Str} (h : Six st aD aU aF H dd) (hk : k ∈ kinds) : ∃ a, DGet H dd (.str k) (some (.ref a)) ∧ Kd st aD aU aF H k a := by
  obtain ⟨kvs, h1, h2⟩ := h.ex
  obtain ⟨a, h3, h4⟩ := h2 k hk
  exact ⟨a, by rw [← h3]; exact DGet.k (k := .inr k) h1, h4⟩
def spRight10 (st : Stmt) (aD aU aF : Addr) (T : List NTab) : Sp := fun vs H Q _ => ∃ dd x y d l, vs = [.ref dd, x, y] ∧ Six st aD aU aF H dd ∧ NQ H x d ∧ NQ H y l ∧ 0 ≤ l ∧ BQ 300 d ∧ BQ 300 l ∧ TabsN T H ∧ ∀ H', ExtN H H' → TabsN T H' → Q (.bl true) H'
theorem three {m : Int} (h0 : 0 ≤ m) (h1 : m < 3) : ∃ (j : Nat) (k : Str), m = (j : Int) ∧ k ∈ kinds ∧ [V.str "half", V.str "up", V.str "grid"][j]? = some (.str k) := by
  obtain ⟨j, rfl⟩ := Int.eq_ofNat_of_zero_le h0
  have hj : j = 0 ∨ j = 1 ∨ j = 2 := by omega
  rcases hj with rfl | rfl | rfl
  · exact ⟨0, "half", rfl, by decide, rfl⟩
  · exact ⟨1, "up", rfl, by decide, rfl⟩
  · exact ⟨2, "grid", rfl, by decide, rfl⟩
end HP
namespace HP
open PySem PySem.Spec PyProof.Rows L2
theorem q_dget {td ty : TE} {σ : L2.St} {H : Hp} {Q : VK} (q : td σ H fun x H1 => ty σ H1 fun y H2 => ∃ a v, x = .ref a ∧ DGet H2 a y (some v) ∧ Q v H2) : tDGet td ty σ H Q := q
end HP
namespace HP
open PySem PySem.Spec PyProof.Rows L2 NdefX LamX
theorem ExtN.put {H H' : Hp} {D : Addr} {o : HO} (e : ExtN H H') (n : H D = none) : ExtN H (upd H' D o) := fun b u z t => by
  rw [upd_ne (ne_of_none z n)]; exact e b u z t
section
variable {st : Stmt} {aD aU aF : Addr} {H H' : Hp}
theorem Six.same {dd : Addr} (h : Six st aD aU aF H dd) (s : Same H H') : Six st aD aU aF H' dd := h.extn (ExtN.of s)
theorem Six.gon {dd bx : Addr} {n : Int} (h : Six st aD aU aF H dd) (B : Box H bx n) (g : GoN bx H H') : Six st aD aU aF H' dd := by
  obtain ⟨kvs, h1, h2⟩ := h.ex
  refine ⟨kvs, g _ _ h1 (fun _ z => by cases z) ?_, fun k hk => let ⟨a, h3, h4⟩ := h2 k hk; ⟨a, h3, h4.gon B g⟩⟩
  obtain ⟨_, _, _, hb, _⟩ := B
  rintro rfl
  rw [h1] at hb; cases hb
inductive Prs (st : Stmt) (aD aU aF : Addr) (H : Hp) : List Str → List Addr → List (Key × V) → Prop
  | nil : Prs st aD aU aF H [] [] []
  | cons {k : Str} {p a : Addr} {ks : List Str} {ps : List Addr} {kvs : List (Key × V)} (e : H p = some (.tup [.str k, .ref a])) (d : Kd st aD aU aF H k a) (t : Prs st aD aU aF H ks ps kvs) : Prs st aD aU aF H (k :: ks) (p :: ps) ((.inr k, .ref a) :: kvs)
variable {ks : List Str} {ps : List Addr} {kvs : List (Key × V)}
theorem Prs.map (h : Prs st aD aU aF H ks ps kvs) (m1 : ∀ {p xs}, H p = some (.tup xs) → H' p = some (.tup xs)) (m2 : ∀ {k a}, Kd st aD aU aF H k a → Kd st aD aU aF H' k a) : Prs st aD aU aF H' ks ps kvs := by
  induction h with
  | nil => exact .nil
  | cons e d _ ih => exact .cons (m1 e) (m2 d) ih
theorem Prs.extn (h : Prs st aD aU aF H ks ps kvs) (e : ExtN H H') : Prs st aD aU aF H' ks ps kvs := h.map (fun z => e _ _ z (fun _ y => by cases y)) fun d => d.extn e
theorem Prs.put {D : Addr} {xs ys : List V} (h : Prs st aD aU aF H ks ps kvs) (hD : H D = some (.lst xs)) : Prs st aD aU aF (upd H D (.lst ys)) ks ps kvs := by
  refine h.map (fun {p zs} z => ?_) fun d => d.map fun n => n.lst hD
  rw [upd_ne]
  · exact z
  · rintro rfl; rw [hD] at z; cases z
theorem Prs.snoc {k : Str} {p a : Addr} (h : Prs st aD aU aF H ks ps kvs) (e : H p = some (.tup [.str k, .ref a])) (d : Kd st aD aU aF H k a) : Prs st aD aU aF H (ks ++ [k]) (ps ++ [p]) (kvs ++ [(.inr k, .ref a)]) := by
  induction h with
  | nil => exact .cons e d .nil
  | cons e' d' _ ih => exact .cons e' d' ih
theorem Prs.paired {K : PySem.W.Frag} (h : Prs st aD aU aF H ks ps kvs) : Paired (fun p (kv : Key × V) => SqT K H p [kV kv.1, kv.2]) ps kvs := by
  induction h with
  | nil => exact .nil
  | cons e _ _ ih => exact .cons (SqT.of e) ih
theorem Prs.six {dd : Addr} (h : Prs st aD aU aF H kinds ps kvs) (hd : H dd = some (.dK (mergeK [] kvs))) : Six st aD aU aF H dd := by
  refine ⟨_, hd, ?_⟩
  cases h with | cons e1 d1 h =>
  cases h with | cons e2 d2 h =>
  cases h with | cons e3 d3 h =>
  cases h with | cons e4 d4 h =>
  cases h with | cons e5 d5 h =>
  cases h with | cons e6 d6 h =>
  cases h
  intro k hk
  rcases kinds_of hk with rfl | rfl | rfl | rfl | rfl | rfl
  · exact ⟨_, rfl, d1⟩
  · exact ⟨_, rfl, d2⟩
  · exact ⟨_, rfl, d3⟩
  · exact ⟨_, rfl, d4⟩
  · exact ⟨_, rfl, d5⟩
  · exact ⟨_, rfl, d6⟩
end
def spLaw10 (K : PySem.W.Frag) (T : List NTab) : Sp := spLawT K T
end HP
namespace HP
theorem div_nn {a b : Rat} (ha : 0 ≤ a) (hb : 0 < b) : 0 ≤ a / b := by
  have hb0 : b ≠ 0 := fun z => by rw [z] at hb; exact Rat.lt_irrefl hb
  refine Rat.le_of_mul_le_mul_right ?_ hb
  have e : a / b * b = a := by grind
  rw [e, Rat.zero_mul]
  exact ha
end HP
namespace HP
open PySem PySem.Spec PyProof.Rows L2 NdefX LamX
/-! ### the tables of the top, as the head has seen them -/
def perA (K : PySem.W.Frag) (x : Str) : Addr := match PySem.W.nsIn K (He.ga K "PERIODS") x with
  | some (some (.ref a)) => a
  | _ => 0
def tupB (K : PySem.W.Frag) (a : Addr) (i j : Int) : Bool := match K.lookup a with
  | some ⟨.type c, _, .seq vs _, _⟩ => decide (c = "tuple") && (match vs.toList with
    | [.int x _, .int y _] => decide (x = i) && decide (y = j)
    | _ => false)
  | _ => false
theorem tupB_ok {K : PySem.W.Frag} {a : Addr} {i j : Int} (h : tupB K a i j = true) (H : Hp) : SqT K H a [.int i, .int j] := by
  unfold tupB at h
  split at h
  · rename_i c od vs n sl e
    rw [Bool.and_eq_true] at h
    obtain ⟨h1, h2⟩ := h
    have hc := of_decide_eq_true h1
    subst hc
    split at h2
    · rename_i x t y u ev
      rw [Bool.and_eq_true] at h2
      have hx := of_decide_eq_true h2.1
      have hy := of_decide_eq_true h2.2
      subst hx; subst hy
      have hs : vs.size = 2 := by rw [← Array.length_toList, ev]; rfl
      exact .inr ⟨_, vs, n, e, rfl, rfl, by rw [hs, sizeLine_eq]; decide, by rw [ev]; exact .cons ⟨_, rfl⟩ (.cons ⟨_, rfl⟩ .nil)⟩
    · cases h2
  · cases h
def perB (K : PySem.W.Frag) : Bool :=
  let P := He.ga K "PERIODS"
  let O := He.ga K "OTHERS"
  (He.eqO (PySem.W.nsIn K P "grid") (some (some (.ref (perA K "grid")))) && tupB K (perA K "grid") 64 0) && ((He.eqO (PySem.W.nsIn K P "half") (some (some (.ref (perA K "half")))) && tupB K (perA K "half") 64 32) && ((He.eqO (PySem.W.nsIn K P "double") (some (some (.ref (perA K "double")))) && tupB K (perA K "double") 32 0) &&
  ((He.eqO (PySem.W.nsIn K P "down") (some none) && (He.eqO (PySem.W.nsIn K P "up") (some none) && He.eqO (PySem.W.nsIn K P "off") (some none))) &&
  (He.eqO (PySem.W.nsIn K O "down") (some (some (.ref (He.ga K "_down")))) && (He.eqO (PySem.W.nsIn K O "up") (some (some (.ref (He.ga K "_up")))) && He.eqO (PySem.W.nsIn K O "off") (some (some (.ref (He.ga K "_off")))))))))
theorem kdct_of {K : PySem.W.Frag} {w : World} {a : Addr} {es : Array DictEntry} {n : Nat} {x : Str} {b : Addr} (D : KDict K w a es n) (e : PySem.W.nsIn K a x = some (some (.ref b))) : KDct K w a x (.ref b) := ⟨es, n, _, D.at_, D.lit, e, rfl⟩
theorem tbls_of {K : PySem.W.Frag} {w : World} (dP : ∃ es n, KDict K w (He.ga K "PERIODS") es n) (dO : ∃ es n, KDict K w (He.ga K "OTHERS") es n) (h : perB K = true) : Tbls K w (He.ga K "PERIODS") (He.ga K "OTHERS") (He.ga K "_down") (He.ga K "_up") (He.ga K "_off") := by
  simp only [perB, Bool.and_eq_true] at h
  obtain ⟨⟨g1, g2⟩, ⟨h1, h2⟩, ⟨b1, b2⟩, ⟨n1, n2, n3⟩, o1, o2, o3⟩ := h
  obtain ⟨es, n, D⟩ := dP
  obtain ⟨es', n', D'⟩ := dO
  exact ⟨⟨_, _, D⟩, ⟨_, _, D'⟩, ⟨_, kdct_of D (He.eqO_ok g1), He.eqO_ok g1, tupB_ok g2⟩, ⟨_, kdct_of D (He.eqO_ok h1), He.eqO_ok h1, tupB_ok h2⟩, ⟨_, kdct_of D (He.eqO_ok b1), He.eqO_ok b1, tupB_ok b2⟩,
    He.eqO_ok n1, He.eqO_ok n2, He.eqO_ok n3, ⟨kdct_of D' (He.eqO_ok o1), He.eqO_ok o1⟩, ⟨kdct_of D' (He.eqO_ok o2), He.eqO_ok o2⟩, ⟨kdct_of D' (He.eqO_ok o3), He.eqO_ok o3⟩⟩
end HP
namespace HP
open PySem PySem.Spec PyProof.Rows L2
/-! ### enumerate over a tuple, and over a list or a tuple -/
theorem enum_newB {v : Value} {o : Obj} {G : Heap → Prop} (B : Begins v o G) :
    Meets (Builtin.«enumerate.__new__» ⟨[.type "enumerate", v], []⟩) (fun _ R s => G s.heap ∧
      R (.ok (.ret (.ref (s.heap.push o).objs.size))) { s with heap := (s.heap.push o).push { cls := .type "enumerate", data := .fields #[.none, .bool false, .ref s.heap.objs.size, rawInt 0, .none, .none] } }) :=
  .of_wp fun prog w A R s hyp => by
    obtain ⟨hp, g, d, tk, os⟩ := s
    obtain ⟨hG, hyp⟩ := hyp
    have sub := sub_enumerate
    have it : ∀ {A' : Around} {E : Value → Shared → Prop} {Q : Value → Shared → Prop}, Q (.ref hp.objs.size) ⟨hp.push o, g, d, tk, os⟩ → wpAny (model prog w) A' (pyIter v) Q E ⟨hp, g, d, tk, os⟩ :=
      fun q => B.iter prog w _ _ ⟨hp, g, d, tk, os⟩ _ hG q
    wp_walk using it
    refine wpAny_stack_any fun st => wpAny_pure ?_
    split
    · rename_i c _ _ _ _ _
      cases (c == Value.type "enumerate") <;> (wp_walk using it; exact ⟨_, rfl, hyp⟩)
    · wp_walk using it
      exact ⟨_, rfl, hyp⟩
section
variable {prog : Program} {w : World} {A : Around} {E : Value → Shared → Prop} {s : Shared}
theorem call_enumT {t : Addr} {items : Array Value} {Q : Value → Shared → Prop} (ht : s.heap.IsTuple t items)
    (q : ∀ h', IsEnum h' (s.heap.objs.size + 1) s.heap.objs.size 0 .none → h'.IsTupleIter s.heap.objs.size t 0 → (∀ b o, s.heap.get? b = some o → h'.get? b = some o) → Q (.ref (s.heap.objs.size + 1)) { s with heap := h' }) :
    wpAny (model prog w) A (call (.type "enumerate") [.ref t]) Q E s := by
  refine callType_new F.called_enumerate (by decide) (F.typeCall_enumerate_1 _) (F.newCall_enumerate_1 _) (fun obj => F.args_object_init_2 obj _) F.entry_enumerate_new (enum_newB (begins_tuple t items)) ⟨ht, ?_⟩
  let oi : Obj := { cls := .type "tuple_iterator", data := .fields #[.ref t, .int 0 0] }
  let oe : Obj := { cls := .type "enumerate", data := .fields #[.none, .bool false, .ref s.heap.objs.size, rawInt 0, .none, .none] }
  have sz : (s.heap.push oi).objs.size = s.heap.objs.size + 1 := Heap.size_push ..
  have ie : IsEnum ((s.heap.push oi).push oe) (s.heap.objs.size + 1) s.heap.objs.size 0 .none := by
    have z := Heap.get?_push_size (s.heap.push oi) (o := oe) rfl
    rw [sz] at z
    exact z
  show _ ∧ _
  rw [sz]
  exact ⟨⟨_, ie, rfl⟩, q _ ie ⟨_, Heap.get?_push_of_some _ (Heap.get?_push_size _ rfl), rfl, rfl⟩ fun b o z => Heap.get?_push_of_some _ (Heap.get?_push_of_some _ z)⟩
theorem next_enumT_end {e it t : Addr} {i : Nat} {items : Array Value} {old : Value} {c : Int} {Q : Option Value → Shared → Prop} (hh : A.handled = none)
    (he : IsEnum s.heap e it c old) (hit : s.heap.IsTupleIter it t i) (ht : s.heap.IsTuple t items) (hx : items[i]? = none) (hQ : ∀ h', Heap.ExtBut it s.heap h' → Q none { s with heap := h' }) : wpAny (model prog w) A (pyNext (.ref e)) Q E s := by
  have ty : s.TypeIs (.ref e) "enumerate" := ⟨_, he, rfl⟩
  have body : ∀ {R : Value → Shared → Prop} {A' : Around} {E' : Value → Shared → Prop}, A'.handled = none → (∀ h' x, Heap.ExtBut it s.heap h' → (∃ o, h'.get? x = some o ∧ o.cls = .type "StopIteration") → E' (.ref x) { s with heap := h' }) →
      wpAny (model prog w) A' (Builtin.SmallTypes.nextOf (.ref it)) R E' s := fun ha z => wpAny_nextOf_tuple_end ha hit ht hx z
  unfold pyNext
  refine wpAny_bind (wpAny_attempt (wpAny_callSpecial?_slot (name := Str.ofString "__next__") ty F.slot_enumerate_next (wpAny_call_entry F.slot_enumerate_next ty F.entry_enumerate_next ?_ (F.args_enumerate_next_1 _))))
  show wpAny _ _ (field (.ref e) 2 >>= _) _ _ _
  refine wpAny_bind (wpAny_field he rfl (x := .ref it) rfl (wpAny_bind (body hh fun h' x eb stop => ?_)))
  obtain ⟨o, ho, hc⟩ := stop
  exact wpAny_bind (wpAny_isInstance (T := "StopIteration") (b := true) ⟨o, ho, hc⟩ isSubtype_stop (wpAny_pure (hQ _ eb)))
end
/-- the tuple at a, each item in a new pair with its number -/
def ItT (K : PySem.W.Frag) (a : Addr) : It :=
  ⟨fun i H => ∃ (xs : List V) (x : V), SqT K H a xs ∧ xs[i]? = some x, fun i H v H' => ∃ T x, v = .ref T ∧ H T = none ∧ H' = upd H T (.tup [.int (i : Nat), x]) ∧ ∀ xs, SqT K H a xs → xs[i]? = some x, fun i H => ∃ xs : List V, SqT K H a xs ∧ xs.length ≤ i⟩
theorem turn_enumT {P : Program} {w : World} {K : PySem.W.Frag} {elts : List Expr} {kk : Nat} {tpos : Pos} (a e it : Addr) :
    Turn P w K (.Tuple elts kk tpos) (ItT K a) [e, it] e (fun i h => (∃ old, IsEnum h e it ((i : Nat) : Int) old) ∧ h.IsTupleIter it a i ∧ e ≠ it ∧ a ≠ it ∧ a ≠ e) where
  mem := List.mem_cons_self
  obj := by
    rintro i h ⟨⟨old, he⟩, ⟨o, ho, hc, hd⟩, _⟩ b hb
    rcases List.mem_cons.mp hb with z | hb
    · subst z; exact ⟨_, he, fun v q => nomatch q⟩
    · rw [List.mem_singleton.mp hb]; exact ⟨o, ho, fun v q => nomatch (hd.symm.trans q)⟩
  keep := by
    rintro i h h' ⟨⟨old, he⟩, hi, ne⟩ k
    exact ⟨⟨old, k e (by simp) _ he⟩, hi.at fun o q => k it (by simp) o q, ne⟩
  item := by
    rintro X rfl rfl rfl calm i pins s σ H E I fpk ⟨⟨old, he⟩, hit, ne, nai, nae⟩ ⟨xs, x, sq, hx⟩
    obtain ⟨its, rv, tup, hz⟩ := I.tuple sq
    obtain ⟨u, hu, ru⟩ := rv.get hx
    have le : e < s.heap.objs.size := Heap.lt_size he
    have li : it < s.heap.objs.size := by obtain ⟨_, q, _⟩ := hit; exact Heap.lt_size q
    have tup' : s.heap.IsTuple a its.toArray := tup
    have hlt : i < its.toArray.size := by
      have := (List.getElem?_eq_some_iff.mp hu).1
      simpa using this
    refine wpAny_pyNext_enum_itemD (Draws.tuple (A := X.A.in1) (I.ok.hd calm) it a nai its.toArray) he ⟨hit, tup'⟩ hlt ne (by simp [ne, Ne.symm nae]) fun x' h' tk' hP ho st hT hsz hk => ?_
    have ex : x' = u := by
      have z : its.toArray[i]? = some x' := hP
      rw [List.getElem?_toArray, hu] at z
      exact (Option.some.inj z).symm
    subst ex
    refine ⟨_, rfl, wpAny_letOwnedTupleGo_enum (s := { s with heap := h', toks := tk' + 1 }) ho fun h2 he2 sb => ?_⟩
    have hT2 : h2.get? s.heap.objs.size = some { cls := .type "tuple", data := .seq #[.int i tk', x'] } := (sb.2 _ (Nat.ne_of_gt le)).trans hT
    have fresh : ObjOk X.prog X.w (upd H s.heap.objs.size (.tup [.int (i : Nat), x])) h2 s.heap.objs.size (.tup [.int (i : Nat), x]) :=
      ⟨Nat.le_of_ble_eq_true rfl, [.int i tk', x'], .cons ⟨_, rfl⟩ (.cons ru .nil), _, hT2, rfl, _, rfl⟩
    have I2 : Inv X pins σ (upd H s.heap.objs.size (.tup [.int (i : Nat), x])) { s with heap := h2, toks := tk' + 1 } :=
      I.turnedNew (ch := [e, it]) (fun b ob hb q => (sb.2 b (fun z => hb (by simp [z]))).trans (hk b ob (fun z => hb (by simp [z])) (fun z => hb (by simp [z])) q)) fpk (Nat.le_refl _) fresh
    refine ⟨.ref s.heap.objs.size, _, I2, rfl, ⟨_, x, rfl, I.hok.fresh (Nat.le_refl _), rfl, fun ys hy => ?_⟩, ⟨⟨x', ?_⟩, st.1.at fun o q => (sb.2 it (Ne.symm ne)).trans q, ne, nai, nae⟩, fun b hb => ?_⟩
    · rw [I.tuple_inj hy sq]; exact hx
    · rw [show ((i + 1 : Nat) : Int) = (i : Int) + 1 by omega]; exact he2
    · have lb : b < s.heap.objs.size := by
        rcases List.mem_cons.mp hb with z | hb
        · rw [z]; exact le
        · rw [List.mem_singleton.mp hb]; exact li
      rw [upd_ne (Nat.ne_of_lt lb)]
      exact (fpk b hb).1
  done := by
    rintro X rfl rfl rfl calm i pins s σ H E I fpk ⟨⟨old, he⟩, hit, ne, nai, nae⟩ ⟨xs, sq, hx⟩
    obtain ⟨its, rv, tup, hz⟩ := I.tuple sq
    obtain ⟨f0, f1, f2, f3, f4, f5⟩ := fpk it (by simp)
    have len := rv.length
    exact next_enumT_end (I.ok.hd calm) he hit (show s.heap.IsTuple a its.toArray from tup) (by simp; omega) fun h' eb => ⟨rfl, I.turned (t' := s.toks) (fun b o hb z => eb b o hb z) f0 f1 f3 f4 f5⟩
  self := fun A i s Q E st h => let ⟨⟨_, he⟩, _⟩ := st; wpAny_pyIter_enum he h
end HP
namespace HP
open PySem PySem.Spec PyProof.Rows L2
def iEnumS (K : PySem.W.Frag) (ta : TA) : TI := fun σ H R => ta σ H fun vs H1 => ∃ a, vs = [.ref a] ∧ (((∃ xs, SqL K H1 a xs) ∧ R (Ite K a) H1) ∨ ((∃ xs, SqT K H1 a xs) ∧ R (ItT K a) H1))
theorem pi_enumS {X : Cx} {e : Expr} {ta : TA} {p pos tpos : Pos} {elts : List Expr} {kk : Nat} (hg : Gl X "enumerate") (hm : X.mg "enumerate" = none) (ha : PA X [e] ta) (hs : starEach [e] X.env = [(false, eval e X.env)] := by rfl) :
    PI X (.Tuple elts kk tpos) (.Call (.Name "enumerate" p) [e] [] pos) (iEnumS X.K ta) := by
  constructor
  intro pins s σ H R I h
  refine Call_ (ld_blt I hg hm boot_enumerate (PyProof.Rows.callWith_type1 (thn (ha.run pos pins s σ H _ I h) fun us s1 ⟨vs, H1, I1, r1, q1⟩ => ?_) hs rfl))
  obtain ⟨a, rfl, q⟩ := q1
  obtain ⟨u, rfl, rx⟩ := vals1 r1
  cases (show u = Value.ref a from rx)
  have fp : ∀ b ∈ [s1.heap.objs.size + 1, s1.heap.objs.size], FpOk X pins H1 b := by
    intro b hb
    have le : s1.heap.objs.size ≤ b := by
      rcases List.mem_cons.mp hb with z | hb
      · omega
      · rw [List.mem_singleton.mp hb]; exact Nat.le_refl _
    exact I1.fpOk le (I1.hok.fresh le)
  rcases q with ⟨⟨xs, hq⟩, q⟩ | ⟨⟨xs, hq⟩, q⟩
  · obtain ⟨its, rv, pl, hz⟩ := I1.list hq
    refine call_enumerate_list pl.isList fun h' he hit hsz hk => wpAny_pyIter_enum he ⟨s1.heap.objs.size + 1, _, _, _, H1, rfl, I1.kept (t' := s1.toks) hk, turn_enum a (s1.heap.objs.size + 1) s1.heap.objs.size, ⟨⟨.none, he⟩, hit, Nat.succ_ne_self _⟩, fp, q⟩
  · obtain ⟨its, rv, tup, hz⟩ := I1.tuple hq
    have lt : a < s1.heap.objs.size := by obtain ⟨o, ho, _⟩ := tup; exact Heap.lt_size ho
    refine call_enumT (show s1.heap.IsTuple a its.toArray from tup) fun h' he hit hk => wpAny_pyIter_enum he ⟨s1.heap.objs.size + 1, _, _, _, H1, rfl, I1.kept (t' := s1.toks) hk, turn_enumT a (s1.heap.objs.size + 1) s1.heap.objs.size, ⟨⟨.none, he⟩, hit, Nat.succ_ne_self _, Nat.ne_of_lt lt, Nat.ne_of_lt (Nat.lt_succ_of_lt lt)⟩, fp, q⟩
theorem walk_enumT {K : PySem.W.Frag} {a : Addr} {xs : List V} : Walk (ItT K a) xs.length (fun H => SqT K H a xs) (YPair (fun i => some (.int (i : Nat))) (fun i => xs[i]?)) := by
  refine ⟨fun i _ hi q => ⟨xs, xs[i], q, by simp [hi]⟩, fun _ q => ⟨xs, q, Nat.le_refl _⟩, fun i H v H' _ q y => ?_⟩
  obtain ⟨T, x, h1, h2, h3, h4⟩ := y
  exact ⟨T, _, x, h1, h2, h3, rfl, h4 xs q⟩
theorem q_enumS {K : PySem.W.Frag} {ta : TA} {σ : L2.St} {H : Hp} {R : It → Hp → Prop} (q : ta σ H fun vs H1 => ∃ a, vs = [.ref a] ∧ (((∃ xs, SqL K H1 a xs) ∧ R (Ite K a) H1) ∨ ((∃ xs, SqT K H1 a xs) ∧ R (ItT K a) H1))) : iEnumS K ta σ H R := q
end HP
namespace HP
open PySem PySem.Spec PyProof.Rows L2
/-! ### polygons of whole parts over a base -/
abbrev PtZ := Int × Int
def cr (p q : PtZ) : Int := p.1 * q.2 - p.2 * q.1
def atZ (ps : List PtZ) (i : Nat) : PtZ := (ps[i]?).getD (0, 0)
theorem atZ_eq {ps : List PtZ} {i : Nat} (h : i < ps.length) : atZ ps i = ps[i] := by unfold atZ; rw [List.getElem?_eq_getElem h]; rfl
theorem take_snoc {ps : List PtZ} {k : Nat} (h : k < ps.length) : ps.take (k + 1) = ps.take k ++ [ps[k]] := by rw [List.take_add_one, List.getElem?_eq_getElem h]; rfl
def cyT (ps : List PtZ) : Nat → Int
  | 0 => 0
  | k + 1 => cyT ps k + cr (atZ ps k) (atZ ps ((k + 1) % ps.length))
/-- twice the area within, the sign telling the turn -/
def cy (ps : List PtZ) : Int := cyT ps ps.length
/-- along an open chain -/
def chn : List PtZ → Int
  | p :: q :: r => cr p q + chn (q :: r)
  | _ => 0
theorem chn_app (p : PtZ) : ∀ (a b : List PtZ), chn (a ++ p :: b) = chn (a ++ [p]) + chn (p :: b)
  | [], b => by simp [chn]
  | [x], b => by cases b <;> simp [chn]
  | x :: y :: a, b => by
    have h := chn_app p (y :: a) b
    simp only [List.cons_append, chn] at h ⊢
    omega
theorem cr_self (p : PtZ) : cr p p = 0 := by unfold cr; rw [Int.mul_comm]; omega
theorem cr_anti (p q : PtZ) : cr p q = -cr q p := by
  unfold cr
  have h1 := Int.mul_comm p.1 q.2
  have h2 := Int.mul_comm p.2 q.1
  omega
theorem chn_rev : ∀ a : List PtZ, chn a.reverse = -chn a
  | [] => rfl
  | [x] => rfl
  | x :: y :: a => by
    have h := chn_rev (y :: a)
    rw [List.reverse_cons] at h
    rw [List.reverse_cons, List.reverse_cons, List.append_assoc, List.singleton_append, chn_app y a.reverse [x], h]
    show -chn (y :: a) + (cr y x + chn [x]) = -(cr x y + chn (y :: a))
    rw [cr_anti y x]
    simp [chn]
    omega
/-- a closed chain: around, back to the first one -/
def rng (ps : List PtZ) : Int := match ps with
  | [] => 0
  | p :: r => chn (p :: r ++ [p])
theorem rng_rot (u v : List PtZ) : rng (u ++ v) = rng (v ++ u) := by
  cases u with
  | nil => simp
  | cons p u =>
    cases v with
    | nil => simp
    | cons q v =>
      show chn (p :: (u ++ q :: v) ++ [p]) = chn (q :: (v ++ p :: u) ++ [q])
      have e1 : p :: (u ++ q :: v) ++ [p] = (p :: u) ++ q :: (v ++ [p]) := by simp
      have e2 : q :: (v ++ p :: u) ++ [q] = (q :: v) ++ p :: (u ++ [q]) := by simp
      rw [e1, e2, chn_app q (p :: u) (v ++ [p]), chn_app p (q :: v) (u ++ [q])]
      simp only [List.cons_append]
      omega
theorem rng_rev (ps : List PtZ) : rng ps.reverse = -rng ps := by
  cases ps with
  | nil => rfl
  | cons p r =>
    have e1 : (p :: r).reverse = r.reverse ++ [p] := List.reverse_cons
    rw [e1, rng_rot]
    show chn (p :: r.reverse ++ [p]) = -chn (p :: r ++ [p])
    rw [← chn_rev]
    congr 1
    simp
/-- moved and grown -/
def mvg (b : PtZ) (g : Int) (p : PtZ) : PtZ := ((p.1 + b.1) * g, (p.2 + b.2) * g)
theorem cr_mvg (b : PtZ) (g : Int) (p q : PtZ) : cr (mvg b g p) (mvg b g q) = g * g * (cr p q + (b.1 * q.2 - b.1 * p.2) - (b.2 * q.1 - b.2 * p.1)) := by
  unfold cr mvg
  grind
theorem chn_mvg (b : PtZ) (g : Int) : ∀ (p : PtZ) (a : List PtZ), chn ((p :: a).map (mvg b g)) = g * g * (chn (p :: a) + (b.1 * ((p :: a).getLast (List.cons_ne_nil _ _)).2 - b.1 * p.2) - (b.2 * ((p :: a).getLast (List.cons_ne_nil _ _)).1 - b.2 * p.1))
  | p, [] => by simp [chn]
  | p, q :: a => by
    have h := chn_mvg b g q a
    simp only [List.map_cons, chn] at h ⊢
    have eL : (p :: q :: a).getLast (List.cons_ne_nil _ _) = (q :: a).getLast (List.cons_ne_nil _ _) := List.getLast_cons (List.cons_ne_nil _ _)
    rw [h, cr_mvg, eL]
    grind
theorem rng_mvg (b : PtZ) (g : Int) (ps : List PtZ) : rng (ps.map (mvg b g)) = g * g * rng ps := by
  cases ps with
  | nil => simp [rng]
  | cons p r =>
    have h := chn_mvg b g p (r ++ [p])
    have e : ((p :: r).map (mvg b g)) = mvg b g p :: r.map (mvg b g) := rfl
    rw [e]
    show chn (mvg b g p :: r.map (mvg b g) ++ [mvg b g p]) = _
    have e2 : mvg b g p :: r.map (mvg b g) ++ [mvg b g p] = (p :: (r ++ [p])).map (mvg b g) := by simp
    have e3 : (p :: (r ++ [p])).getLast (List.cons_ne_nil _ _) = p := by
      rw [List.getLast_cons (by simp), List.getLast_concat]
    rw [e2, h, e3]
    show g * g * _ = g * g * chn (p :: r ++ [p])
    rw [List.cons_append]
    grind
theorem cyT_chn (ps : List PtZ) : ∀ k, k + 1 ≤ ps.length → cyT ps k = chn (ps.take (k + 1))
  | 0, h => by
    cases ps with
    | nil => simp at h
    | cons p r => simp [cyT, chn]
  | k + 1, h => by
    have ih := cyT_chn ps k (by omega)
    have h1 : k < ps.length := by omega
    have h2 : k + 1 < ps.length := by omega
    have e2 := take_snoc h1
    have e1 : ps.take (k + 1 + 1) = ps.take k ++ ps[k] :: [ps[k + 1]] := by
      rw [take_snoc h2, e2, List.append_assoc]; rfl
    rw [e1, chn_app, ← e2, ← ih]
    show cyT ps k + cr (atZ ps k) (atZ ps ((k + 1) % ps.length)) = _
    rw [Nat.mod_eq_of_lt h2]
    rw [atZ_eq h1, atZ_eq h2]
    simp [chn]
theorem cy_rng (ps : List PtZ) : cy ps = rng ps := by
  cases ps with
  | nil => rfl
  | cons p r =>
    have h := cyT_chn (p :: r) r.length (by simp)
    unfold cy
    rw [List.length_cons]
    show cyT (p :: r) r.length + cr (atZ (p :: r) r.length) (atZ (p :: r) ((r.length + 1) % (p :: r).length)) = chn (p :: r ++ [p])
    rw [h, List.length_cons, Nat.mod_self]
    have h1 : r.length < (p :: r).length := by simp
    have e2 := take_snoc h1
    have e3 : (p :: r).take r.length ++ [(p :: r)[r.length]] = p :: r := by
      rw [← e2, List.take_of_length_le (by simp)]
    have e4 : (p :: r) ++ [p] = (p :: r).take r.length ++ (p :: r)[r.length] :: [p] := by
      rw [show (p :: r).take r.length ++ (p :: r)[r.length] :: [p] = ((p :: r).take r.length ++ [(p :: r)[r.length]]) ++ [p] by rw [List.append_assoc]; rfl, e3]
    show _ = chn ((p :: r) ++ [p])
    rw [e4, chn_app, ← e2, atZ_eq h1, atZ_eq (show 0 < (p :: r).length by simp)]
    simp [chn]
theorem sgn_mul {g x : Int} (h : 0 < g) : sgn (g * g * x) = sgn x := by
  have hg : 0 < g * g := Int.mul_pos h h
  unfold sgn
  by_cases h1 : x < 0
  · rw [if_pos h1, if_pos (Int.mul_neg_of_pos_of_neg hg h1)]
  · by_cases h2 : 0 < x
    · have := Int.mul_pos hg h2
      rw [if_neg h1, if_pos h2, if_neg (by omega), if_pos this]
    · have : x = 0 := by omega
      subst this
      simp
theorem sgn_neg (x : Int) : sgn (-x) = 0 - sgn x := by
  unfold sgn
  split <;> split <;> (try split) <;> omega
/-- the sign of a number that is a whole one over a base -/
theorem sgn_q {x E : Int} (hE : 0 < E) : sgn ((x : Rat) / (E : Rat)).num = sgn x := by
  have hE' : (0 : Rat) < (E : Rat) := by exact_mod_cast hE
  have e : (x : Rat) / (E : Rat) * (E : Rat) = (x : Rat) := by have := int_ne (show E ≠ 0 by omega); grind
  have hn := q_neg0 ((x : Rat) / (E : Rat))
  have hp := q_pos0 ((x : Rat) / (E : Rat))
  generalize (x : Rat) / (E : Rat) = q at *
  unfold sgn
  by_cases h1 : x < 0
  · have : q < 0 := Rat.not_le.mp fun z => by
      have z2 := Rat.mul_nonneg z (Rat.le_of_lt hE')
      rw [e] at z2
      have : 0 ≤ x := by exact_mod_cast z2
      omega
    rw [if_pos h1, if_pos (hn.mp this)]
  · by_cases h2 : 0 < x
    · have : 0 < q := Rat.not_le.mp fun z => by
        have z2 := Rat.mul_le_mul_of_nonneg_right z (Rat.le_of_lt hE')
        rw [e, Rat.zero_mul] at z2
        have : x ≤ 0 := by exact_mod_cast z2
        omega
      have z := hp.mp this
      rw [if_neg h1, if_pos h2, if_neg (by omega), if_pos z]
    · have hx : x = 0 := by omega
      subst hx
      have : q = 0 := by
        have hE0 : (E : Rat) ≠ 0 := int_ne (by omega)
        have e2 : q * (E : Rat) = 0 := e
        grind
      rw [this]
      rfl
end HP
namespace HP
open PySem PySem.Spec PyProof.Rows L2
/-! ### polygons in the heap -/
def PlB (H : Hp) (B : Int) (v : V) (p : PtZ) : Prop := ∃ t u w, v = .ref t ∧ H t = some (.tup [u, w]) ∧ NQ H u ((p.1 : Rat) / (B : Rat)) ∧ NQ H w ((p.2 : Rat) / (B : Rat))
theorem PlB.same {H H' : Hp} {B : Int} {v : V} {p : PtZ} (h : PlB H B v p) (s : Same H H') : PlB H' B v p := by
  obtain ⟨t, u, w, e, h1, h2, h3⟩ := h
  exact ⟨t, u, w, e, s _ _ h1, NQ.same h2 s, NQ.same h3 s⟩
theorem PlB.pl {K : PySem.W.Frag} {H : Hp} {B : Int} {v : V} {p : PtZ} (h : PlB H B v p) : Pl K H v ((p.1 : Rat) / (B : Rat)) ((p.2 : Rat) / (B : Rat)) := by
  obtain ⟨t, u, w, e, h1, h2, h3⟩ := h
  exact ⟨t, u, w, e, SqT.of h1, h2, h3⟩
structure PolB (tu : Bool) (K : PySem.W.Frag) (H : Hp) (a : Addr) (B : Int) (ps : List PtZ) : Prop where
  ex : ∃ vs : List V, SqE tu K H a vs ∧ vs.length = ps.length ∧ ∀ (i : Nat) (p : PtZ), ps[i]? = some p → ∃ v, vs[i]? = some v ∧ PlB H B v p
theorem PolB.same {tu : Bool} {K : PySem.W.Frag} {H H' : Hp} {a : Addr} {B : Int} {ps : List PtZ} (h : PolB tu K H a B ps) (s : Same H H') : PolB tu K H' a B ps := by
  obtain ⟨vs, h1, h2, h3⟩ := h.ex
  exact ⟨vs, h1.same s, h2, fun i p e => let ⟨v, e1, e2⟩ := h3 i p e; ⟨v, e1, e2.same s⟩⟩
/-- small enough -/
def SmZ (n : Nat) (ps : List PtZ) : Prop := ∀ p ∈ ps, Bt n p.1 ∧ Bt n p.2
theorem for_enumE {tu : Bool} {K : PySem.W.Frag} {a : Addr} {xs : List V} {g : TG} {tb : TS} {D : Ends} {σ : L2.St} {H : Hp} (h : SqE tu K H a xs) (Pv : Nat → L2.St → Hp → Prop) (h0 : Pv 0 σ H) (hl : ∀ i σ H', i ≤ xs.length → Pv i σ H' → SqE tu K H' a xs)
    (hs : ∀ i T x σ H, xs[i]? = some x → Pv i σ H → H T = none → g (.ref T) σ (upd H T (.tup [.int (i : Nat), x])) fun σ2 H2 => tb { D with nx := Pv (i + 1), ct := Pv (i + 1), bk := D.nx } σ2 H2) (hd : ∀ σ H, Pv xs.length σ H → D.nx σ H) :
    ((∃ xs, SqL K H a xs) ∧ ∃ W : Nat → Nat → L2.St → Hp → Prop, (∃ m, W 0 m σ H) ∧ ∀ i m σ H, W i m σ H → ((Ite K a).stop i H ∧ D.nx σ H) ∨ ((Ite K a).go i H ∧ ∃ N : L2.St → Hp → Prop, (∀ σ' H', N σ' H' → ∃ m', m' < m ∧ W (i + 1) m' σ' H') ∧ ∀ x H', (Ite K a).yld i H x H' → g x σ H' fun σ2 H2 => tb { D with nx := N, ct := N, bk := D.nx } σ2 H2)) ∨
    ((∃ xs, SqT K H a xs) ∧ ∃ W : Nat → Nat → L2.St → Hp → Prop, (∃ m, W 0 m σ H) ∧ ∀ i m σ H, W i m σ H → ((ItT K a).stop i H ∧ D.nx σ H) ∨ ((ItT K a).go i H ∧ ∃ N : L2.St → Hp → Prop, (∀ σ' H', N σ' H' → ∃ m', m' < m ∧ W (i + 1) m' σ' H') ∧ ∀ x H', (ItT K a).yld i H x H' → g x σ H' fun σ2 H2 => tb { D with nx := N, ct := N, bk := D.nx } σ2 H2)) := by
  have step : ∀ i x σ H H', i < xs.length → Pv i σ H → YPair (fun i => some (.int (i : Nat))) (fun i => xs[i]?) i H x H' → g x σ H' fun σ2 H2 => tb { D with nx := Pv (i + 1), ct := Pv (i + 1), bk := D.nx } σ2 H2 := by
    rintro i x σ H H' hi p ⟨T, y, z, rfl, nT, rfl, e1, e2⟩
    cases e1
    exact hs i T z σ H e2 p nT
  cases tu with
  | false => exact .inl ⟨⟨xs, SqL.of h⟩, for_it walk_enum Pv h0 (fun i σ H' hi p => SqL.of (hl i σ H' hi p)) step hd⟩
  | true => exact .inr ⟨⟨xs, SqT.of h⟩, for_it walk_enumT Pv h0 (fun i σ H' hi p => SqT.of (hl i σ H' hi p)) step hd⟩
theorem q_ixE {tu : Bool} {K : PySem.W.Frag} {H : Hp} {Q : VK} {a : Addr} {xs : List V} {j : Nat} {v : V} (h : SqE tu K H a xs) (hv : xs[j]? = some v) (q : Q v H) : rIx K (.ref a) (.int (j : Int)) H Q := by
  cases tu with
  | false => exact .inl (q_ixL (SqL.of h) hv q)
  | true => exact .inr (.inl (q_ixT (SqT.of h) hv q))
/-- the shares of a polygon over its base -/
def shr (B : Int) (ps : List PtZ) (k : Nat) : Rat := ((cr (atZ ps k) (atZ ps ((k + 1) % ps.length)) : Int) : Rat) / ((B * B : Int) : Rat)
def shs (B : Int) (ps : List PtZ) (k : Nat) : List Rat := (List.range k).map (shr B ps)
theorem shs_succ (B : Int) (ps : List PtZ) (k : Nat) : shs B ps (k + 1) = shs B ps k ++ [shr B ps k] := by unfold shs; rw [List.range_succ, List.map_append]; rfl
theorem shs_sum {B : Int} (hB : 0 < B) (ps : List PtZ) : ∀ k, (shs B ps k).foldl (· + ·) 0 = ((cyT ps k : Int) : Rat) / ((B * B : Int) : Rat)
  | 0 => by
    show (0 : Rat) = ((0 : Int) : Rat) / _
    rw [show ((0 : Int) : Rat) = 0 from rfl, Rat.div_def, Rat.zero_mul]
  | k + 1 => by
    rw [shs_succ, List.foldl_append, shs_sum hB ps k]
    show _ + shr B ps k = ((cyT ps k + cr (atZ ps k) (atZ ps ((k + 1) % ps.length)) : Int) : Rat) / _
    unfold shr
    rw [Rat.intCast_add, Rat.div_def, Rat.div_def, Rat.div_def, Rat.add_mul]
def spTurn (K : PySem.W.Frag) : Sp := fun vs H Q _ => ∃ tu a B ps, vs = [.ref a] ∧ 0 < B ∧ Bt 8 B ∧ PolB tu K H a B ps ∧ 1 ≤ ps.length ∧ ps.length ≤ 100 ∧ SmZ 130 ps ∧ ∀ H', Same H H' → Q (.int (sgn (cy ps))) H'
end HP
namespace HP
open PySem PySem.Spec PyProof.Rows L2
theorem den_dvdE {x E : Int} (hE : 0 < E) : ((((x : Rat) / (E : Rat)).den : Nat) : Int) ∣ E := by
  have hE0 : (E : Rat) ≠ 0 := int_ne (by omega)
  obtain ⟨q, hq⟩ : ∃ q : Rat, (x : Rat) / (E : Rat) = q := ⟨_, rfl⟩
  have e : q * (E : Rat) = (x : Rat) := by rw [← hq]; grind
  rw [hq]
  have r := rat_nd q
  have d0 := den_ne q
  have key : q.num * E = x * (q.den : Int) := by
    have : ((q.num * E : Int) : Rat) = ((x * (q.den : Int) : Int) : Rat) := by
      rw [Rat.intCast_mul, Rat.intCast_mul, ← e]
      have r2 : (q.num : Rat) = q * ((q.den : Int) : Rat) := by grind
      rw [r2]; grind
    exact_mod_cast this
  have dv : q.den ∣ (q.num * E).natAbs := by
    rw [key, Int.natAbs_mul, Int.natAbs_natCast]; exact Nat.dvd_mul_left _ _
  rw [Int.natAbs_mul] at dv
  have c : Nat.Coprime q.den q.num.natAbs := Nat.Coprime.symm q.reduced
  have := Nat.Coprime.dvd_of_dvd_mul_left c dv
  exact Int.ofNat_dvd_left.mpr this
theorem Itq.lst {H : Hp} {o : Addr} {xs ys : List V} (ho : H o = some (.lst xs)) {vs : List V} {qs : List Rat} (h : Itq H vs qs) : Itq (upd H o (.lst ys)) vs qs := Paired.mapP h fun v q z => ⟨z.1.lst ho, z.2⟩
theorem shr_eq {B : Int} (hB : 0 < B) {ps : List PtZ} {i : Nat} (hi : i < ps.length) (hj : (i + 1) % ps.length < ps.length) :
    (ps[i].1 : Rat) / (B : Rat) * ((ps[(i + 1) % ps.length].2 : Rat) / (B : Rat)) - (ps[i].2 : Rat) / (B : Rat) * ((ps[(i + 1) % ps.length].1 : Rat) / (B : Rat)) = shr B ps i := by
  unfold shr
  rw [atZ_eq hi, atZ_eq hj]
  generalize ps[i] = p
  generalize ps[(i + 1) % ps.length] = r
  unfold cr
  have hB0 : (B : Rat) ≠ 0 := int_ne (by omega)
  rw [Rat.intCast_sub, Rat.intCast_mul, Rat.intCast_mul, Rat.intCast_mul]
  grind
theorem shr_b {B : Int} (hB : 0 < B) (bB : Bt 8 B) {ps : List PtZ} (bd : SmZ 130 ps) {i : Nat} (hi : i < ps.length) : BQ 600 (shr B ps i) := by
  have hj : (i + 1) % ps.length < ps.length := Nat.mod_lt _ (by omega)
  unfold shr
  rw [atZ_eq hi, atZ_eq hj]
  have h1 := bd _ (List.getElem_mem hi)
  have h2 := bd _ (List.getElem_mem hj)
  unfold cr
  exact BQ.of (((h1.1.mul h2.2).sub (h1.2.mul h2.1)).mono (by decide)) ((bB.mul bB).mono (by decide)) (by have := Int.mul_pos hB hB; omega)
theorem shs_len {B : Int} {ps : List PtZ} (k : Nat) : (shs B ps k).length = k := by unfold shs; rw [List.length_map, List.length_range]
theorem shs_Sum {B : Int} (hB : 0 < B) (bB : Bt 8 B) {ps : List PtZ} (bd : SmZ 130 ps) (hl : ps.length ≤ 100) : Sum (shs B ps ps.length) 0 where
  ex := by
    refine ⟨B * B, Int.mul_pos hB hB, (bB.mul bB).mono (by decide), fun q hq => ?_, ?_⟩
    · obtain ⟨i, hi, rfl⟩ := List.mem_map.mp hq
      have hi := List.mem_range.mp hi
      exact ⟨shr_b hB bB bd hi, den_dvdE (Int.mul_pos hB hB)⟩
    · exact Int.one_dvd _
  a := ⟨⟨by decide +kernel⟩, ⟨by decide +kernel⟩⟩
  n := by rw [shs_len]; omega
theorem lc_seqE {tu : Bool} {K : PySem.W.Frag} {a : Addr} {xs : List V} {g : TG} {tt : TT} {te : TE} {vs : List Nat} {σ : L2.St} {H1 : Hp} {Qd : Addr → Hp → Prop} (h : SqE tu K H1 a xs) (Pv : Addr → Nat → Hp → Prop) (h0 : ∀ D, H1 D = none → Pv D 0 (upd H1 D (.lst []))) (hl : ∀ D i H, i ≤ xs.length → H1 D = none → Pv D i H → SqE tu K H a xs)
    (hs : ∀ D i x H, xs[i]? = some x → H1 D = none → Pv D i H → g x (wipe σ vs) H fun σ2 H2 => wipe σ2 vs = wipe σ vs ∧ tt σ2 H2 fun b H3 =>
      if b = true then te σ2 H3 fun y H4 => ∃ acc, H4 D = some (.lst acc) ∧ acc.length < sizeLine ∧ Pv D (i + 1) (upd H4 D (.lst (acc ++ [y]))) else Pv D (i + 1) H3) (hd : ∀ D H, H1 D = none → Pv D xs.length H → Qd D H) :
    ((∃ xs, SqL K H1 a xs) ∧ ∀ D, H1 D = none → ∃ W : Nat → Nat → Hp → Prop, (∃ m, W 0 m (upd H1 D (.lst []))) ∧ ∀ i m H, W i m H →
      ((Itl K a).stop i H ∧ Qd D H) ∨ ((Itl K a).go i H ∧ ∃ Nx : Hp → Prop, (∀ H', Nx H' → ∃ m', m' < m ∧ W (i + 1) m' H') ∧ ∀ x H', (Itl K a).yld i H x H' → g x (wipe σ vs) H' fun σ2 H2 => wipe σ2 vs = wipe σ vs ∧ tt σ2 H2 fun b H3 =>
        if b = true then te σ2 H3 fun y H4 => ∃ acc, H4 D = some (.lst acc) ∧ acc.length < sizeLine ∧ Nx (upd H4 D (.lst (acc ++ [y]))) else Nx H3)) ∨
    ((∃ xs, SqT K H1 a xs) ∧ ∀ D, H1 D = none → ∃ W : Nat → Nat → Hp → Prop, (∃ m, W 0 m (upd H1 D (.lst []))) ∧ ∀ i m H, W i m H →
      ((Itt K a).stop i H ∧ Qd D H) ∨ ((Itt K a).go i H ∧ ∃ Nx : Hp → Prop, (∀ H', Nx H' → ∃ m', m' < m ∧ W (i + 1) m' H') ∧ ∀ x H', (Itt K a).yld i H x H' → g x (wipe σ vs) H' fun σ2 H2 => wipe σ2 vs = wipe σ vs ∧ tt σ2 H2 fun b H3 =>
        if b = true then te σ2 H3 fun y H4 => ∃ acc, H4 D = some (.lst acc) ∧ acc.length < sizeLine ∧ Nx (upd H4 D (.lst (acc ++ [y]))) else Nx H3)) := by
  cases tu with
  | false => exact .inl ⟨⟨xs, SqL.of h⟩, fun D nD => lc_list (xs := xs) (Pv D) (h0 D nD) (fun i H hi p => SqL.of (hl D i H hi nD p)) (fun i x H hx p => hs D i x H hx nD p) (fun H p => hd D H nD p)⟩
  | true => exact .inr ⟨⟨xs, SqT.of h⟩, fun D nD => lc_tup (xs := xs) (Pv D) (h0 D nD) (fun i H hi p => SqT.of (hl D i H hi nD p)) (fun i x H hx p => hs D i x H hx nD p) (fun H p => hd D H nD p)⟩
def trn (pss : List (List PtZ)) : List V := pss.map fun ps => V.int (sgn (cy ps))
theorem trn_snoc {pss : List (List PtZ)} {i : Nat} (h : i < pss.length) : trn (pss.take (i + 1)) = trn (pss.take i) ++ [V.int (sgn (cy pss[i]))] := by
  unfold trn
  rw [List.take_add_one, List.getElem?_eq_getElem h, List.map_append]
  rfl
theorem trn_len (pss : List (List PtZ)) : (trn pss).length = pss.length := by unfold trn; rw [List.length_map]
/-- rows of polygons -/
structure PolsB (tu tb : Bool) (K : PySem.W.Frag) (H : Hp) (a : Addr) (B : Int) (pss : List (List PtZ)) : Prop where
  ex : ∃ vs : List V, SqE tu K H a vs ∧ vs.length = pss.length ∧ ∀ (i : Nat) (ps : List PtZ), pss[i]? = some ps → ∃ b, vs[i]? = some (.ref b) ∧ PolB tb K H b B ps
theorem PolsB.same {tu tb : Bool} {K : PySem.W.Frag} {H H' : Hp} {a : Addr} {B : Int} {pss : List (List PtZ)} (h : PolsB tu tb K H a B pss) (s : Same H H') : PolsB tu tb K H' a B pss := by
  obtain ⟨vs, h1, h2, h3⟩ := h.ex
  exact ⟨vs, h1.same s, h2, fun i p e => let ⟨v, e1, e2⟩ := h3 i p e; ⟨v, e1, e2.same s⟩⟩
structure OkP (pss : List (List PtZ)) : Prop where
  l0 : 1 ≤ pss.length
  l1 : pss.length ≤ 4
  all : ∀ ps ∈ pss, 1 ≤ ps.length ∧ ps.length ≤ 100 ∧ SmZ 130 ps
def spPols (K : PySem.W.Frag) : Sp := fun vs H Q _ => ∃ tu tb a B pss, vs = [.ref a] ∧ PolsB tu tb K H a B pss ∧ OkP pss ∧ ∀ H', Same H H' → Q .non H'
def spTurns (K : PySem.W.Frag) : Sp := fun vs H Q _ => ∃ tu tb a B pss, vs = [.ref a] ∧ 0 < B ∧ Bt 8 B ∧ PolsB tu tb K H a B pss ∧ OkP pss ∧ ∀ r H', Same H H' → H r = none → H' r = some (.lst (trn pss)) → Q (.ref r) H'
/-! ### a box of four -/
def Box4 (H : Hp) (bx : Addr) (n : Int) : Prop := ∃ a b c d, H bx = some (.lst [.int a, .int b, .int c, .int d]) ∧ 0 ≤ a ∧ 0 ≤ b ∧ b < 2147483629 ∧ 0 ≤ c ∧ c < 2147483587 ∧ 0 ≤ d ∧ d ≤ n
theorem Box4.same {H H' : Hp} {bx : Addr} {n : Int} (h : Box4 H bx n) (s : Same H H') : Box4 H' bx n := by
  obtain ⟨a, b, c, d, h1, h2⟩ := h
  exact ⟨a, b, c, d, s _ _ h1, h2⟩
theorem Box4.mono {H : Hp} {bx : Addr} {n m : Int} (h : Box4 H bx n) (l : n ≤ m) : Box4 H bx m := by
  obtain ⟨a, b, c, d, h1, h2, h3, h4, h5, h6, h7, h8⟩ := h
  exact ⟨a, b, c, d, h1, h2, h3, h4, h5, h6, h7, by omega⟩
theorem Box4.ne {H : Hp} {bx a : Addr} {n : Int} {xs : List V} (h : Box4 H bx n) (e : H a = some (.tup xs)) : a ≠ bx := by
  obtain ⟨_, _, _, _, h1, _⟩ := h
  exact ne_of e h1 (by intro z; cases z)
theorem Box4.fresh {H : Hp} {bx p : Addr} {n : Int} (h : Box4 H bx n) (np : H p = none) : p ≠ bx := fun z => by
  obtain ⟨_, _, _, _, h, _⟩ := h
  rw [← z, np] at h
  cases h
theorem Box4.put {bx : Addr} {H : Hp} {D : Addr} {o : HO} {n : Int} (h : Box4 H bx n) (nb : D ≠ bx) : Box4 (upd H D o) bx n := by
  obtain ⟨a, b, c, d, h1, h2⟩ := h
  exact ⟨a, b, c, d, by rw [upd_ne (Ne.symm nb)]; exact h1, h2⟩
def spBox4 : Sp := fun vs H Q _ => ∃ x, vs = [.int x] ∧ ∀ p H', Same H H' → H p = none → Box4 H' p 0 → Q (.ref p) H'
def spTake4 : Sp := fun vs H Q _ => ∃ bx m n, vs = [.ref bx, .int m] ∧ Box4 H bx n ∧ 0 < m ∧ Bt 300 m ∧ n < 1000000 ∧ ∀ d H', 0 ≤ d → d < m → Go bx H H' → Box4 H' bx (n + 1) → Q (.int d) H'
def spLowP : Sp := fun vs H Q _ => ∃ t b : Int, vs = [.int t, .int b] ∧ 0 < b ∧ Bt 8000 t ∧ Bt 8000 b ∧ ∀ v H', Same H H' → NQ H' v ((t : Rat) / (b : Rat)) → Q v H'
/-- the whole pairs of a list -/
structure PrsZ (H : Hp) (a : Addr) (ps : List PtZ) : Prop where
  ex : ∃ ts : List Addr, H a = some (.lst (ts.map V.ref)) ∧ ts.length = ps.length ∧ ∀ (i : Nat) (p : PtZ), ps[i]? = some p → ∃ t, ts[i]? = some t ∧ H t = some (.tup [.int p.1, .int p.2])
theorem PrsZ.same {H H' : Hp} {a : Addr} {ps : List PtZ} (h : PrsZ H a ps) (s : Same H H') : PrsZ H' a ps := by
  obtain ⟨ts, h1, h2, h3⟩ := h.ex
  exact ⟨ts, s _ _ h1, h2, fun i p e => let ⟨t, e1, e2⟩ := h3 i p e; ⟨t, e1, s _ _ e2⟩⟩
def spTold24 : Sp := fun vs H Q _ => ∃ (a : Addr) (ps : List PtZ) (B : Int), vs = [.ref a, .int B] ∧ PrsZ H a ps ∧ 0 < B ∧ Bt 8 B ∧ ps.length ≤ 100 ∧ SmZ 130 ps ∧ ∀ r H' (K : PySem.W.Frag), Same H H' → H r = none → PolB false K H' r B ps → Q (.ref r) H'
def spDue24 : Sp := fun vs H Q _ => ∃ (a : Addr) (ps : List PtZ), vs = [.ref a] ∧ PrsZ H a ps ∧ 1 ≤ ps.length ∧ ps.length ≤ 100 ∧ SmZ 130 ps ∧ ∀ H', Same H H' → Q (.int (sgn (cy ps))) H'
/-- one more behind -/
theorem PolB.snoc {K : PySem.W.Frag} {H' : Hp} {r : Addr} {B : Int} {xs : List V} {ps : List PtZ} {v : V} {p : PtZ} (hx : xs.length = ps.length) (hv : ∀ (i : Nat) (p : PtZ), ps[i]? = some p → ∃ v, xs[i]? = some v ∧ PlB H' B v p) (hp : PlB H' B v p) (hr : H' r = some (.lst (xs ++ [v]))) : PolB false K H' r B (ps ++ [p]) :=
  ⟨xs ++ [v], hr, by simp [hx], fun i p' e => by
    rw [List.getElem?_append] at e ⊢
    split at e
    · rename_i hi
      rw [if_pos (by omega)]
      exact hv i p' e
    · rename_i hi
      rw [if_neg (by omega)]
      rw [hx]
      cases h : i - ps.length with
      | zero => rw [h] at e; cases e; exact ⟨v, rfl, hp⟩
      | succ n => rw [h] at e; simp at e⟩
theorem PlB.lst {H : Hp} {o : Addr} {xs ys : List V} (ho : H o = some (.lst xs)) {B : Int} {v : V} {p : PtZ} (h : PlB H B v p) : PlB (upd H o (.lst ys)) B v p := by
  obtain ⟨t, u, w, e, h1, h2, h3⟩ := h
  refine ⟨t, u, w, e, ?_, h2.lst ho, h3.lst ho⟩
  rw [upd_ne (ne_heap h1 ho (by simp))]
  exact h1
def dZ (p : PtZ) : PyData := .tuple [.int p.1, .int p.2]
theorem dp_pz {K : PySem.W.Frag} {H : Hp} : ∀ {ps : List PtZ} {ts : List Addr}, ts.length = ps.length → (∀ (i : Nat) (p : PtZ), ps[i]? = some p → ∃ t, ts[i]? = some t ∧ H t = some (.tup [.int p.1, .int p.2])) → DpAll K H (ts.map V.ref) (ps.map dZ)
  | [], [], _, _ => .nil
  | [], _ :: _, h, _ => by simp at h
  | _ :: _, [], h, _ => by simp at h
  | p :: ps, t :: ts, h, hv => by
    obtain ⟨t', e, ht⟩ := hv 0 p rfl
    cases e
    exact .cons (.tup (SqT.of ht) (.cons (.int _) (.cons (.int _) .nil))) (dp_pz (by simpa using h) fun i p' e => hv (i + 1) p' e)
theorem PrsZ.dp {K : PySem.W.Frag} {H : Hp} {a : Addr} {ps : List PtZ} (h : PrsZ H a ps) : Dp K H (.ref a) (.list (ps.map dZ)) := by
  obtain ⟨ts, h1, h2, h3⟩ := h.ex
  exact .lst (SqL.of h1) (dp_pz h2 h3)
theorem gd_z {p : PtZ} (h1 : Bt 1900 p.1) (h2 : Bt 1900 p.2) : GD (dZ p) 2 3 := by
  refine (gd_tuple (k := 1) (m := 0) ?_).mono (by decide) (by simp)
  intro d hd
  rcases List.mem_cons.mp hd with e | hd
  · rw [e]
    exact gd_int h1
  rcases List.mem_cons.mp hd with e | hd
  · rw [e]
    exact gd_int h2
  · cases hd
theorem gd_zs {ps : List PtZ} (bd : SmZ 130 ps) : ∀ d ∈ ps.map dZ, GD d 2 3 := fun d hd => by
  obtain ⟨p, hp, rfl⟩ := List.mem_map.mp hd
  exact gd_z ((bd p hp).1.mono (by decide)) ((bd p hp).2.mono (by decide))
theorem q_neP {K : PySem.W.Frag} {H : Hp} {Q : VK} {a b : Addr} {ps : List PtZ} (h : PrsZ H a ps) (bd : SmZ 130 ps) (h2 : H b = some (.lst [])) (q : Q (.bl (!ps.isEmpty)) H) : rNeD K (.ref a) (.ref b) H Q := by
  refine ⟨_, .list [], h.dp, .lst (SqL.of h2) .nil, (gd_list (gd_zs bd)).shaped (by decide), rfl, ?_⟩
  have e : PyData.eqv (.list (ps.map dZ)) (.list []) = ps.isEmpty := by
    cases ps <;> rfl
  rw [e]; exact q
theorem PrsZ.snoc {H : Hp} {r t : Addr} {ts : List Addr} {ps : List PtZ} {p : PtZ} (h1 : H r = some (.lst (ts.map V.ref))) (h2 : ts.length = ps.length) (h3 : ∀ (i : Nat) (p : PtZ), ps[i]? = some p → ∃ t, ts[i]? = some t ∧ H t = some (.tup [.int p.1, .int p.2])) (ht : H t = some (.tup [.int p.1, .int p.2])) : PrsZ (upd H r (.lst (ts.map V.ref ++ [.ref t]))) r (ps ++ [p]) :=
  ⟨ts ++ [t], by rw [List.map_append]; exact upd_same, by simp [h2], fun i p' e => by
    have up : ∀ {c : Addr} {xs : List V}, H c = some (.tup xs) → upd H r (.lst (ts.map V.ref ++ [.ref t])) c = some (.tup xs) := fun {c xs} hc => by
      rw [upd_ne (ne_heap hc h1 (by simp))]; exact hc
    rw [List.getElem?_append] at e ⊢
    split at e
    · rename_i hi
      rw [if_pos (by omega)]
      obtain ⟨c, e1, e2⟩ := h3 i p' e
      exact ⟨c, e1, up e2⟩
    · rename_i hi
      rw [if_neg (by omega), h2]
      cases h : i - ps.length with
      | zero => rw [h] at e; cases e; exact ⟨t, rfl, up ht⟩
      | succ n => rw [h] at e; simp at e⟩
theorem PrsZ.go {H H' : Hp} {a bx : Addr} {n : Int} {ps : List PtZ} (h : PrsZ H a ps) (na : a ≠ bx) (B : Box4 H bx n) (g : Go bx H H') : PrsZ H' a ps := by
  obtain ⟨ts, h1, h2, h3⟩ := h.ex
  exact ⟨ts, g _ _ h1 na, h2, fun i p e => let ⟨t, e1, e2⟩ := h3 i p e; ⟨t, e1, g _ _ e2 (B.ne e2)⟩⟩
def spPoly24 : Sp := fun vs H Q _ => ∃ (bx : Addr) (n : Int), vs = [.ref bx] ∧ Box4 H bx n ∧ n < 900000 ∧ ∀ (r : Addr) (ps : List PtZ) H', Go bx H H' → Box4 H' bx (n + 300) → H r = none → r ≠ bx → PrsZ H' r ps → 1 ≤ ps.length → ps.length ≤ 100 → SmZ 20 ps → Q (.ref r) H'
theorem SmZ.snoc {n : Nat} {ps : List PtZ} {p : PtZ} (h : SmZ n ps) (h1 : Bt n p.1) (h2 : Bt n p.2) : SmZ n (ps ++ [p]) := fun z hz => by
  rcases List.mem_append.mp hz with e | e
  · exact h z e
  · rw [List.mem_singleton.mp e]; exact ⟨h1, h2⟩
theorem SmZ.mono {n m : Nat} {ps : List PtZ} (h : SmZ n ps) (l : n ≤ m) : SmZ m ps := fun z hz => ⟨(h z hz).1.mono l, (h z hz).2.mono l⟩
theorem pe_revK {X : Cx} {K : PySem.W.Frag} (hK : X.K = K) {e : Expr} {te : TE} {k : Nat} {p1 p2 p3 pos : Pos} (he : PE X e te) : PE X (.Subscript e (.Slice none none (some (.UnaryOp .USub (.Constant (.int 1) k p1) p2)) p3) pos) (tRevL K te) := by
  subst hK
  exact pe_revL he
theorem call_tupKK {X : Cx} {K : PySem.W.Frag} (hK : X.K = K) : CallR X (.type "tuple") (rTupOf K) := by subst hK; exact call_tupK
theorem call_listKK {X : Cx} {K : PySem.W.Frag} (hK : X.K = K) : CallR X (.type "list") (rListOf K) := by subst hK; exact call_listK
/-! ### rows of lists of places -/
structure RwX (R : Hp → Addr → List PtZ → Prop) (H : Hp) (a : Addr) (pss : List (List PtZ)) : Prop where
  ex : ∃ cs : List Addr, H a = some (.lst (cs.map V.ref)) ∧ cs.length = pss.length ∧ ∀ (i : Nat) (ps : List PtZ), pss[i]? = some ps → ∃ c, cs[i]? = some c ∧ c ≠ a ∧ R H c ps
theorem RwX.same {R : Hp → Addr → List PtZ → Prop} (hR : ∀ H H' c ps, R H c ps → Same H H' → R H' c ps) {H H' : Hp} {a : Addr} {pss : List (List PtZ)} (h : RwX R H a pss) (s : Same H H') : RwX R H' a pss := by
  obtain ⟨cs, h1, h2, h3⟩ := h.ex
  exact ⟨cs, s _ _ h1, h2, fun i p e => let ⟨t, e1, e2, e3⟩ := h3 i p e; ⟨t, e1, e2, hR _ _ _ _ e3 s⟩⟩
theorem RwX.nil {R : Hp → Addr → List PtZ → Prop} {H : Hp} {a : Addr} (h : H a = some (.lst [])) : RwX R H a [] := ⟨[], h, rfl, fun _ _ e => by simp at e⟩
theorem RwX.snoc {R : Hp → Addr → List PtZ → Prop} {H : Hp} {D r : Addr} {cs : List Addr} {pss : List (List PtZ)} {ps : List PtZ} (hu : ∀ c ps, c ≠ D → R H c ps → R (upd H D (.lst (cs.map V.ref ++ [.ref r]))) c ps) (h2 : cs.length = pss.length)
    (h3 : ∀ (i : Nat) (ps : List PtZ), pss[i]? = some ps → ∃ c, cs[i]? = some c ∧ c ≠ D ∧ R H c ps) (hr : r ≠ D) (hp : R H r ps) : RwX R (upd H D (.lst (cs.map V.ref ++ [.ref r]))) D (pss ++ [ps]) :=
  ⟨cs ++ [r], by rw [List.map_append]; exact upd_same, by simp [h2], fun i p' e => by
    rw [List.getElem?_append] at e ⊢
    split at e
    · rename_i hi
      rw [if_pos (by omega)]
      obtain ⟨c, e1, e2, e3⟩ := h3 i p' e
      exact ⟨c, e1, e2, hu c p' e2 e3⟩
    · rename_i hi
      rw [if_neg (by omega), h2]
      cases h : i - pss.length with
      | zero => rw [h] at e; cases e; exact ⟨r, rfl, hr, hu r _ hr hp⟩
      | succ n => rw [h] at e; simp at e⟩
theorem PrsZ.upd {H : Hp} {c D : Addr} {xs : List V} {o : HO} {ps : List PtZ} (h : PrsZ H c ps) (n : c ≠ D) (hD : H D = some (.lst xs)) : PrsZ (upd H D o) c ps := by
  obtain ⟨ts, h1, h2, h3⟩ := h.ex
  exact ⟨ts, by rw [upd_ne n]; exact h1, h2, fun i p e => let ⟨t, e1, e2⟩ := h3 i p e; ⟨t, e1, by rw [upd_ne (ne_heap e2 hD (by simp))]; exact e2⟩⟩
theorem PlB.upd {H : Hp} {D : Addr} {xs : List V} {o : HO} {B : Int} {v : V} {p : PtZ} (h : PlB H B v p) (hD : H D = some (.lst xs)) : PlB (upd H D o) B v p := by
  obtain ⟨t, u, w, e, h1, h2, h3⟩ := h
  exact ⟨t, u, w, e, by rw [upd_ne (ne_heap h1 hD (by simp))]; exact h1, h2.lstx hD, h3.lstx hD⟩
theorem PolB.upd {tu : Bool} {K : PySem.W.Frag} {H : Hp} {b D : Addr} {B : Int} {xs : List V} {o : HO} {ps : List PtZ} (h : PolB tu K H b B ps) (n : b ≠ D) (hD : H D = some (.lst xs)) : PolB tu K (upd H D o) b B ps := by
  obtain ⟨vs, h1, h2, h3⟩ := h.ex
  refine ⟨vs, ?_, h2, fun i p e => let ⟨t, e1, e2⟩ := h3 i p e; ⟨t, e1, e2.upd hD⟩⟩
  unfold SqE at *
  cases tu
  · rw [upd_ne n]; exact h1
  · rw [upd_ne n]; exact h1
abbrev RwZ := RwX PrsZ
abbrev RwP (tb : Bool) (K : PySem.W.Frag) (B : Int) := RwX fun H b ps => PolB tb K H b B ps
theorem RwP.pols {tb : Bool} {K : PySem.W.Frag} {B : Int} {H : Hp} {a : Addr} {pss : List (List PtZ)} (h : RwP tb K B H a pss) : PolsB false tb K H a B pss := by
  obtain ⟨cs, h1, h2, h3⟩ := h.ex
  exact ⟨cs.map V.ref, h1, by simp [h2], fun i ps e => let ⟨c, e1, _, e3⟩ := h3 i ps e; ⟨c, by rw [List.getElem?_map, e1]; rfl, e3⟩⟩
/-- not the box -/
theorem Box4.neL {H : Hp} {bx a c : Addr} {n : Int} {xs : List V} (h : Box4 H bx n) (e : H a = some (.lst xs)) (h0 : xs[0]? = some (.ref c)) : a ≠ bx := by
  rintro rfl
  obtain ⟨_, _, _, _, h1, _⟩ := h
  rw [h1] at e
  cases e
  cases h0
theorem PrsZ.nb {H : Hp} {bx a : Addr} {n : Int} {ps : List PtZ} (h : PrsZ H a ps) (h0 : 1 ≤ ps.length) (B : Box4 H bx n) : a ≠ bx := by
  obtain ⟨ts, h1, h2, h3⟩ := h.ex
  obtain ⟨t, e, _⟩ := h3 0 ps[0] (List.getElem?_eq_getElem h0)
  exact B.neL h1 (by rw [List.getElem?_map, e]; rfl)
theorem RwZ.go {H H' : Hp} {bx a : Addr} {n : Int} {pss : List (List PtZ)} (h : RwZ H a pss) (hl : ∀ ps ∈ pss, 1 ≤ ps.length) (na : a ≠ bx) (B : Box4 H bx n) (g : Go bx H H') : RwZ H' a pss := by
  obtain ⟨cs, h1, h2, h3⟩ := h.ex
  exact ⟨cs, g _ _ h1 na, h2, fun i p e => let ⟨t, e1, e2, e3⟩ := h3 i p e; ⟨t, e1, e2, e3.go (e3.nb (hl p (List.mem_of_getElem? e)) B) B g⟩⟩
/-- what is shown -/
theorem dpAll_of {K : PySem.W.Frag} {H : Hp} : ∀ {ds : List PyData} {xs : List V}, xs.length = ds.length → (∀ (i : Nat) (d : PyData), ds[i]? = some d → ∃ v, xs[i]? = some v ∧ Dp K H v d) → DpAll K H xs ds
  | [], [], _, _ => .nil
  | [], _ :: _, h, _ => by simp at h
  | _ :: _, [], h, _ => by simp at h
  | d :: ds, x :: xs, h, hv => by
    obtain ⟨v, e, hd⟩ := hv 0 d rfl
    cases e
    exact .cons hd (dpAll_of (by simpa using h) fun i d' e => hv (i + 1) d' e)
def dB (B : Int) (p : PtZ) : PyData := dP ((p.1 : Rat) / (B : Rat)) ((p.2 : Rat) / (B : Rat))
def dBs (B : Int) (pss : List (List PtZ)) : PyData := .list (pss.map fun ps => .list (ps.map (dB B)))
theorem PolB.dp {K : PySem.W.Frag} {H : Hp} {b : Addr} {B : Int} {ps : List PtZ} (h : PolB false K H b B ps) : Dp K H (.ref b) (.list (ps.map (dB B))) := by
  obtain ⟨vs, h1, h2, h3⟩ := h.ex
  refine .lst (SqL.of h1) (dpAll_of (by simp [h2]) fun i d e => ?_)
  rw [List.getElem?_map] at e
  obtain ⟨p, hp, rfl⟩ := Option.map_eq_some_iff.mp e
  obtain ⟨v, e1, e2⟩ := h3 i p hp
  exact ⟨v, e1, e2.pl.dp⟩
theorem PolsB.dp {K : PySem.W.Frag} {H : Hp} {a : Addr} {B : Int} {pss : List (List PtZ)} (h : PolsB false false K H a B pss) : Dp K H (.ref a) (dBs B pss) := by
  obtain ⟨vs, h1, h2, h3⟩ := h.ex
  refine .lst (SqL.of h1) (dpAll_of (by simp [h2]) fun i d e => ?_)
  rw [List.getElem?_map] at e
  obtain ⟨ps, hp, rfl⟩ := Option.map_eq_some_iff.mp e
  obtain ⟨v, e1, e2⟩ := h3 i ps hp
  exact ⟨_, e1, e2.dp⟩
theorem gd_dBs {B : Int} (hB : 0 < B) (bB : Bt 8 B) {pss : List (List PtZ)} (ok : OkP pss) : GD (dBs B pss) 5 2804 := by
  refine (gd_list (k := 4) (m := 700) ?_).mono (by decide) (by have := ok.l1; simp; omega)
  intro d hd
  obtain ⟨ps, hp, rfl⟩ := List.mem_map.mp hd
  obtain ⟨h1, h2, h3⟩ := ok.all ps hp
  refine (gd_list (k := 3) (m := 6) ?_).mono (by decide) (by simp; omega)
  intro d hd
  obtain ⟨p, hq, rfl⟩ := List.mem_map.mp hd
  have bq : ∀ {x : Int}, Bt 130 x → BQ 1900 ((x : Rat) / (B : Rat)) := fun h => (BQ.of h (bB.mono (by decide)) (by omega)).mono (by decide)
  exact gd_pl (bq (h3 p hq).1) (bq (h3 p hq).2)
def dTr (pss : List (List PtZ)) : PyData := .list (pss.map fun ps => .int (sgn (cy ps)))
theorem trn_dp {K : PySem.W.Frag} {H : Hp} {a : Addr} {pss : List (List PtZ)} (h : H a = some (.lst (trn pss))) : Dp K H (.ref a) (dTr pss) := by
  refine .lst (SqL.of h) (dpAll_of (by simp [trn_len]) fun i d e => ?_)
  rw [List.getElem?_map] at e
  obtain ⟨ps, hp, rfl⟩ := Option.map_eq_some_iff.mp e
  exact ⟨.int (sgn (cy ps)), by unfold trn; rw [List.getElem?_map, hp]; rfl, .int _⟩
theorem gd_dTr {pss : List (List PtZ)} (ok : OkP pss) : GD (dTr pss) 2 4 := by
  refine (gd_list (k := 1) (m := 0) ?_).mono (by decide) (by have := ok.l1; simp; omega)
  intro d hd
  obtain ⟨ps, hp, rfl⟩ := List.mem_map.mp hd
  refine gd_int ((Bt.small ?_ ?_).mono (by decide)) <;> (unfold sgn; split <;> (try split) <;> decide)
theorem dTr_eq {pss qss : List (List PtZ)} (h : trn pss = trn qss) : dTr pss = dTr qss := by
  unfold trn at h
  unfold dTr
  have : ∀ {as bs : List (List PtZ)}, as.map (fun ps => V.int (sgn (cy ps))) = bs.map (fun ps => V.int (sgn (cy ps))) → as.map (fun ps => PyData.int (sgn (cy ps))) = bs.map (fun ps => PyData.int (sgn (cy ps))) := by
    intro as
    induction as with
    | nil => intro bs e; cases bs with
      | nil => rfl
      | cons _ _ => cases e
    | cons x xs ih => intro bs e; cases bs with
      | nil => cases e
      | cons y ys =>
        simp only [List.map_cons, List.cons.injEq, V.int.injEq] at e ⊢
        exact ⟨by rw [e.1], ih e.2⟩
  rw [this h]
theorem PrsZ.rot {H : Hp} {r : Addr} {ts : List Addr} {ps : List PtZ} (h2 : ts.length = ps.length) (h3 : ∀ (i : Nat) (p : PtZ), ps[i]? = some p → ∃ t, ts[i]? = some t ∧ H t = some (.tup [.int p.1, .int p.2])) {j : Nat} (hr : H r = some (.lst ((ts.map V.ref).drop j ++ (ts.map V.ref).take j))) : PrsZ H r (ps.drop j ++ ps.take j) :=
  ⟨ts.drop j ++ ts.take j, by rw [hr, List.map_append, List.map_drop, List.map_take], by simp [h2], fun i p e => by
    rw [List.getElem?_append] at e ⊢
    rw [List.length_drop] at e ⊢
    rw [h2]
    split at e
    · rename_i hi
      rw [if_pos hi, List.getElem?_drop]
      rw [List.getElem?_drop] at e
      exact h3 _ _ e
    · rename_i hi
      rw [if_neg hi]
      rw [List.getElem?_take] at e ⊢
      split at e
      · rename_i hk
        rw [if_pos hk]
        exact h3 _ _ e
      · cases e⟩
/-- the other ones -/
def oth (b : PtZ) (g : Int) (j : Nat) (ps : List PtZ) : List PtZ := (ps.map (mvg b g)).drop (j % ps.length) ++ (ps.map (mvg b g)).take (j % ps.length)
theorem cy_oth {b : PtZ} {g : Int} (hg : 0 < g) (j : Nat) (ps : List PtZ) : sgn (cy (oth b g j ps)) = sgn (cy ps) := by
  unfold oth
  rw [cy_rng, rng_rot, List.take_append_drop, rng_mvg, sgn_mul hg, cy_rng]
theorem trn_oth {b : PtZ} {g : Int} (hg : 0 < g) (j : Nat) (pss : List (List PtZ)) : trn (pss.map (oth b g j)) = trn pss := by
  unfold trn
  rw [List.map_map]
  refine List.map_congr_left fun ps _ => ?_
  show V.int (sgn (cy (oth b g j ps))) = _
  rw [cy_oth hg]
theorem trn_rev (pss : List (List PtZ)) : trn (pss.map List.reverse) = pss.map fun ps => V.int (0 - sgn (cy ps)) := by
  unfold trn
  rw [List.map_map]
  refine List.map_congr_left fun ps _ => ?_
  show V.int (sgn (cy ps.reverse)) = _
  rw [cy_rng, rng_rev, sgn_neg, cy_rng]
theorem RwZ.same {H H' : Hp} {a : Addr} {pss : List (List PtZ)} (h : RwZ H a pss) (s : Same H H') : RwZ H' a pss := RwX.same (R := PrsZ) (fun _ _ _ _ h s => PrsZ.same h s) h s
theorem RwP.same {tb : Bool} {K : PySem.W.Frag} {B : Int} {H H' : Hp} {a : Addr} {pss : List (List PtZ)} (h : RwP tb K B H a pss) (s : Same H H') : RwP tb K B H' a pss := RwX.same (R := fun H b ps => PolB tb K H b B ps) (fun _ _ _ _ h s => PolB.same h s) h s
theorem oth_len {b : PtZ} {g : Int} {j : Nat} {ps : List PtZ} : (oth b g j ps).length = ps.length := by
  unfold oth
  simp only [List.length_append, List.length_drop, List.length_take, List.length_map]
  omega
theorem oth_sm {b : PtZ} {g : Int} {j : Nat} {ps : List PtZ} (h : SmZ 20 ps) (h1 : Bt 90 b.1) (h2 : Bt 90 b.2) (hg : Bt 4 g) : SmZ 130 (oth b g j ps) := by
  have hm : ∀ z ∈ ps.map (mvg b g), Bt 130 z.1 ∧ Bt 130 z.2 := fun z hz => by
    obtain ⟨p, hp, rfl⟩ := List.mem_map.mp hz
    have bp := h p hp
    have u : Bt 91 (p.1 + b.1) := (bp.1.mono (show 20 ≤ 90 by decide)).add2 h1
    have v : Bt 91 (p.2 + b.2) := (bp.2.mono (show 20 ≤ 90 by decide)).add2 h2
    exact ⟨(u.mul hg).mono (by decide), (v.mul hg).mono (by decide)⟩
  intro z hz
  unfold oth at hz
  rcases List.mem_append.mp hz with e | e
  · exact hm z (List.mem_of_mem_drop e)
  · exact hm z (List.mem_of_mem_take e)
theorem okP_oth {b : PtZ} {g : Int} {j : Nat} {pss : List (List PtZ)} (h : OkP pss) (hs : ∀ ps ∈ pss, SmZ 20 ps) (h1 : Bt 90 b.1) (h2 : Bt 90 b.2) (hg : Bt 4 g) : OkP (pss.map (oth b g j)) :=
  ⟨by rw [List.length_map]; exact h.l0, by rw [List.length_map]; exact h.l1, fun z hz => by
    obtain ⟨ps, hp, rfl⟩ := List.mem_map.mp hz
    obtain ⟨o1, o2, _⟩ := h.all ps hp
    exact ⟨by rw [oth_len]; exact o1, by rw [oth_len]; exact o2, oth_sm (hs ps hp) h1 h2 hg⟩⟩
theorem okP_rev {pss : List (List PtZ)} (h : OkP pss) : OkP (pss.map List.reverse) :=
  ⟨by rw [List.length_map]; exact h.l0, by rw [List.length_map]; exact h.l1, fun z hz => by
    obtain ⟨ps, hp, rfl⟩ := List.mem_map.mp hz
    obtain ⟨o1, o2, o3⟩ := h.all ps hp
    exact ⟨by rw [List.length_reverse]; exact o1, by rw [List.length_reverse]; exact o2, fun z hz => o3 z (List.mem_reverse.mp hz)⟩⟩
theorem PolB.rev {K : PySem.W.Frag} {H H' : Hp} {r : Addr} {B : Int} {vs : List V} {ps : List PtZ} (hl : vs.length = ps.length) (hv : ∀ (i : Nat) (p : PtZ), ps[i]? = some p → ∃ v, vs[i]? = some v ∧ PlB H B v p) (s : Same H H') (hr : H' r = some (.lst vs.reverse)) : PolB false K H' r B ps.reverse :=
  ⟨vs.reverse, hr, by simp [hl], fun i p e => by
    have hi : i < ps.length := by
      have := (List.getElem?_eq_some_iff.mp e).1
      rwa [List.length_reverse] at this
    rw [List.getElem?_reverse hi] at e
    rw [List.getElem?_reverse (by omega), hl]
    obtain ⟨v, e1, e2⟩ := hv _ p e
    exact ⟨v, e1, e2.same s⟩⟩
def negV : V → V
  | .int i => .int (0 - i)
  | v => v
theorem trn_revN (pss : List (List PtZ)) : trn (pss.map List.reverse) = (trn pss).map negV := by
  rw [trn_rev]
  unfold trn
  rw [List.map_map]
  rfl
end HP
namespace HP
open PySem PySem.Spec PyProof.Rows L2
/-! ### zip over a list and a tuple -/
/-- the list at a beside the tuple at b, each two items in a new pair -/
def ItM (K : PySem.W.Frag) (a b : Addr) : It :=
  ⟨fun i H => ∃ (xs ys : List V) (x y : V), SqL K H a xs ∧ SqT K H b ys ∧ xs.length = ys.length ∧ xs[i]? = some x ∧ ys[i]? = some y,
    fun i H v H' => ∃ T x y, v = .ref T ∧ H T = none ∧ H' = upd H T (.tup [x, y]) ∧ (∀ xs, SqL K H a xs → xs[i]? = some x) ∧ ∀ ys, SqT K H b ys → ys[i]? = some y,
    fun i H => ∃ xs ys : List V, SqL K H a xs ∧ SqT K H b ys ∧ xs.length = ys.length ∧ i = xs.length⟩
theorem turn_zipM {P : Program} {w : World} {K : PySem.W.Frag} {elts : List Expr} {kk : Nat} {tpos : Pos} {a b z TI TO i1 i2 : Addr} (S : ZipSep2 z TI TO i1 i2 [i1, a] [i2, b]) (na : a ≠ i1) (nb : b ≠ i2) (ni : i1 ≠ i2) :
    Turn P w K (.Tuple elts kk tpos) (ItM K a b) [z, TI, TO, i1, i2] z (fun i h => IsZip h z TI TO .none ∧ IsTupOf2 h TI (.ref i1) (.ref i2) ∧ (∃ x y, IsTupOf2 h TO x y) ∧ h.IsListIter i1 a i ∧ h.IsTupleIter i2 b i) where
  mem := List.mem_cons_self
  obj := by
    rintro i h ⟨hz, hT, ⟨x, y, hO⟩, ⟨o1, e1, _, d1⟩, ⟨o2, e2, _, d2⟩⟩ c hc
    simp only [List.mem_cons, List.not_mem_nil, or_false] at hc
    rcases hc with r | r | r | r | r <;> subst r
    · exact ⟨_, hz, fun v q => nomatch q⟩
    · exact ⟨_, hT, fun v q => nomatch q⟩
    · exact ⟨_, hO, fun v q => nomatch q⟩
    · exact ⟨o1, e1, fun v q => nomatch (d1.symm.trans q)⟩
    · exact ⟨o2, e2, fun v q => nomatch (d2.symm.trans q)⟩
  keep := by
    rintro i h h' ⟨hz, hT, ⟨x, y, hO⟩, h1, h2⟩ k
    exact ⟨k z (by simp) _ hz, k TI (by simp) _ hT, ⟨x, y, k TO (by simp) _ hO⟩, h1.at fun o q => k i1 (by simp) o q, h2.at fun o q => k i2 (by simp) o q⟩
  item := by
    rintro X rfl rfl rfl calm i pins s σ H E I fpk ⟨hz, hT, ⟨x0, y0, hO⟩, h1, h2⟩ ⟨xs, ys, x, y, sx, sy, hl, hx, hy⟩
    obtain ⟨its, rv, pl, _⟩ := I.list sx
    obtain ⟨jts, rw', tup, _⟩ := I.tuple sy
    have pl' : s.heap.IsList a its.toArray := pl.isList
    have tup' : s.heap.IsTuple b jts.toArray := tup
    obtain ⟨u, hu, ru⟩ := rv.get hx
    obtain ⟨u', hu', ru'⟩ := rw'.get hy
    have l1 : i < its.toArray.size := by simpa using (List.getElem?_eq_some_iff.mp hu).1
    have l2 : i < jts.toArray.size := by simpa using (List.getElem?_eq_some_iff.mp hu').1
    have lz : z < s.heap.objs.size := Heap.lt_size hz
    refine wpAny_pyNext_zipD2_item S (Draws.list (A := X.A.in1) (I.ok.hd calm) i1 a na its.toArray) (Draws.tuple (A := X.A.in1) (I.ok.hd calm) i2 b nb jts.toArray) hz hT hO ⟨h1, pl'⟩ ⟨h2, tup'⟩ l1 l2 fun v1 v2 h' tk p1 p2 hz' hO' st1 st2 hT' hsz hk => ?_
    have e1 : v1 = u := by
      have q : its.toArray[i]? = some v1 := p1
      rw [List.getElem?_toArray, hu] at q
      exact (Option.some.inj q).symm
    have e2 : v2 = u' := by
      have q : jts.toArray[i]? = some v2 := p2
      rw [List.getElem?_toArray, hu'] at q
      exact (Option.some.inj q).symm
    subst e1 e2
    have hTI' : IsTupOf2 h' TI (.ref i1) (.ref i2) := hk TI _ S.TIz S.TITO S.TIi1 S.TIi2 hT
    refine ⟨_, rfl, wpAny_letOwnedTupleGo_zip (s := { s with heap := h', toks := tk }) hz' fun h2' z2 sb => ?_⟩
    have hN : h2'.get? s.heap.objs.size = some { cls := .type "tuple", data := .seq #[v1, v2] } := (sb.2 _ (Nat.ne_of_gt lz)).trans hT'
    have fresh : ObjOk X.prog X.w (upd H s.heap.objs.size (.tup [x, y])) h2' s.heap.objs.size (.tup [x, y]) := ⟨Nat.le_of_ble_eq_true rfl, [v1, v2], .cons ru (.cons ru' .nil), _, hN, rfl, _, rfl⟩
    have I2 : Inv X pins σ (upd H s.heap.objs.size (.tup [x, y])) { s with heap := h2', toks := tk } :=
      I.turnedNew (ch := [z, TI, TO, i1, i2]) (fun c o hc q => (sb.2 c (fun r => hc (by simp [r]))).trans (hk c o (fun r => hc (by simp [r])) (fun r => hc (by simp [r])) (fun r => hc (by simp [r])) (fun r => hc (by simp [r])) q)) fpk (Nat.le_refl _) fresh
    refine ⟨.ref s.heap.objs.size, _, I2, rfl, ⟨_, x, y, rfl, I.hok.fresh (Nat.le_refl _), rfl, fun zs hq => ?_, fun zs hq => ?_⟩, ⟨z2, (sb.2 _ S.TIz).trans hTI', ⟨_, _, (sb.2 _ S.TOz).trans hO'⟩, st1.1.at fun o q => (sb.2 i1 (Ne.symm S.zi1)).trans q, st2.1.at fun o q => (sb.2 i2 (Ne.symm S.zi2)).trans q⟩, fun c hc => ?_⟩
    · rw [I.list_inj hq sx]; exact hx
    · rw [I.tuple_inj hq sy]; exact hy
    · have lt : c < s.heap.objs.size := by
        simp only [List.mem_cons, List.not_mem_nil, or_false] at hc
        rcases hc with r | r | r | r | r <;> subst r
        · exact lz
        · exact Heap.lt_size hT
        · exact Heap.lt_size hO
        · obtain ⟨_, q, _⟩ := h1; exact Heap.lt_size q
        · obtain ⟨_, q, _⟩ := h2; exact Heap.lt_size q
      rw [upd_ne (Nat.ne_of_lt lt)]
      exact (fpk c hc).1
  done := by
    rintro X rfl rfl rfl calm i pins s σ H E I fpk ⟨hz, hT, ⟨x0, y0, hO⟩, h1, h2⟩ ⟨xs, ys, sx, sy, hl, hi⟩
    obtain ⟨its, rv, pl, _⟩ := I.list sx
    obtain ⟨jts, rw', tup, _⟩ := I.tuple sy
    have pl' : s.heap.IsList a its.toArray := pl.isList
    have tup' : s.heap.IsTuple b jts.toArray := tup
    have n1 := rv.length
    have n2 := rw'.length
    refine wpAny_pyNext_zipD2_end S (Draws.list (A := X.A.in1) (I.ok.hd calm) i1 a na its.toArray) (Draws.tuple (A := X.A.in1) (I.ok.hd calm) i2 b nb jts.toArray) hz hT hO ⟨h1, pl'⟩ ⟨h2, tup'⟩ (by simp; omega) (by simp; omega) (.inl (by simp; omega)) fun h' tk hk => ⟨rfl, ?_⟩
    exact I.turnedL (t' := tk) (ch := [z, TI, TO, i1, i2]) (fun c o hc q => hk c o (fun r => hc (by simp [r])) (fun r => hc (by simp [r])) (fun r => hc (by simp [r])) (fun r => hc (by simp [r])) q) fpk
  self := fun A i s Q E st h => wpAny_pyIter_zip st.1 h
def iZipM (K : PySem.W.Frag) (ta : TA) : TI := fun σ H R => ta σ H fun vs H1 => ∃ a b xs ys, vs = [.ref a, .ref b] ∧ SqL K H1 a xs ∧ SqT K H1 b ys ∧ R (ItM K a b) H1
theorem pi_zipM {X : Cx} {e e2 : Expr} {ta : TA} {p pos tpos : Pos} {elts : List Expr} {kk : Nat} (hg : Gl X "zip") (hm : X.mg "zip" = none) (ha : PA X [e, e2] ta)
    (hst : starEach [e, e2] X.env = (false, eval e X.env) :: starEach [e2] X.env := by rfl) (hno : (backTo pos (starEach [e2] X.env)).any (·.1) = false := by rfl) : PI X (.Tuple elts kk tpos) (.Call (.Name "zip" p) [e, e2] [] pos) (iZipM X.K ta) := by
  constructor
  intro pins s σ H R I h
  refine Call_ (ld_blt I hg hm boot_zip (PyProof.Rows.callWith_type1 (thn (ha.run pos pins s σ H _ I h) fun us s1 ⟨vs, H1, I1, r1, q1⟩ => ?_) hst hno))
  obtain ⟨a, b, xs, ys, rfl, sx, sy, q⟩ := q1
  obtain ⟨u, u', rfl, rx, ry⟩ := vals2 r1
  cases (show u = Value.ref a from rx)
  cases (show u' = Value.ref b from ry)
  obtain ⟨its, rv, pl, _⟩ := I1.list sx
  obtain ⟨jts, rw', tup, _⟩ := I1.tuple sy
  have la : a < s1.heap.objs.size := pl.lt
  have lb : b < s1.heap.objs.size := by obtain ⟨o, ho, _⟩ := tup; exact Heap.lt_size ho
  refine zip_begins2 (begins_list a its.toArray) (begins_tuple b jts.toArray) pl.isList (show s1.heap.IsTuple b jts.toArray from tup) fun h' hz hT hO g1 g2 hsz hk => wpAny_pyIter_zip hz ?_
  refine ⟨s1.heap.objs.size + 4, [s1.heap.objs.size + 4, s1.heap.objs.size + 2, s1.heap.objs.size + 3, s1.heap.objs.size, s1.heap.objs.size + 1], _, _, H1, rfl, I1.kept (t' := s1.toks) hk, turn_zipM (zip_sep2 (fp1 := [a]) (fp2 := [b]) (by simpa using la) (by simpa using lb)) (Nat.ne_of_lt la) (Nat.ne_of_lt (Nat.lt_succ_of_lt lb)) (Nat.ne_of_lt (Nat.lt_succ_self _)), ⟨hz, hT, ⟨_, _, hO⟩, ⟨_, g1, rfl, rfl⟩, ⟨_, g2, rfl, rfl⟩⟩, fun c hc => ?_, q⟩
  have le : s1.heap.objs.size ≤ c := by
    simp only [List.mem_cons, List.not_mem_nil, or_false] at hc
    rcases hc with r | r | r | r | r <;> subst r <;> first | exact Nat.le_refl _ | exact Nat.le_add_right _ _
  exact I1.fpOk le (I1.hok.fresh le)
theorem q_zipM {K : PySem.W.Frag} {ta : TA} {σ : L2.St} {H : Hp} {R : It → Hp → Prop} (q : ta σ H fun vs H1 => ∃ a b xs ys, vs = [.ref a, .ref b] ∧ SqL K H1 a xs ∧ SqT K H1 b ys ∧ R (ItM K a b) H1) : iZipM K ta σ H R := q
theorem walk_zipM {K : PySem.W.Frag} {a b : Addr} {xs ys : List V} (hl : xs.length = ys.length) : Walk (ItM K a b) xs.length (fun H => SqL K H a xs ∧ SqT K H b ys) (YPair (fun i => xs[i]?) (fun i => ys[i]?)) := by
  refine ⟨fun i _ hi q => ⟨xs, ys, xs[i], ys[i]'(by omega), q.1, q.2, hl, by simp [hi], by simp [show i < ys.length by omega]⟩, fun _ q => ⟨xs, ys, q.1, q.2, hl, rfl⟩, fun i H v H' _ q y => ?_⟩
  obtain ⟨T, x, y, h1, h2, h3, h4, h5⟩ := y
  exact ⟨T, x, y, h1, h2, h3, h4 xs q.1, h5 ys q.2⟩
end HP
namespace HP
open PySem PySem.Spec PyProof.Rows L2
/-! ### objects of the program's own classes -/
/-- a method and what it promises -/
structure CalM (P : Program) (w : World) (K : PySem.W.Frag) (mg : Str → Option Value) (base : Heap) (k : Nat) (C : Addr) (m : Str) (ps : List Str) (sp : Sp) : Prop where
  ex : ∃ (f : Addr) (fd : FuncData), Meth K C m f ∧ FnOk P w K mg base CX0 k f fd ps (spN ps.length sp) ∧ Binds K fd ps []
/-- a class that is made by its own __init__ -/
structure CalI (P : Program) (w : World) (K : PySem.W.Frag) (mg : Str → Option Value) (base : Heap) (k : Nat) (C : Addr) (x : Str) (ps : List Str) (sp : Sp) : Prop where
  ex : ∃ (f : Addr) (fd : FuncData), Mk K C f ∧ FnOk P w K mg base CX0 k f fd ps (spN ps.length sp) ∧ Binds K fd ps [] ∧ mg x = some (.ref C)
section
variable {P : Program} {w : World} {K : PySem.W.Frag} {mg : Str → Option Value} {base : Heap}
theorem fnM {x q : Str} {st : Stmt} {f : Addr} {fd : FuncData} {N ps : List Str} {k : Nat} {sp : Sp} (F : Fun K x q st f fd) (S : FnScope N ps (defScope st))
    (hbody : ∀ (cdv : Value) (A : Around) (outer : List Env) (s : Shared) (H : Hp) (vs : List V) (Q : VK) (E : XK), Room k (A.deeper (envOfC q (defScope st) s.heap.objs.size f cdv)) → sp vs H Q E →
      ∃ t, PSs (cxOf CX0 P w K mg base N q (defScope st) f cdv A outer s H E).nox (defBody st) t ∧ t { nx := fun _ H' => Q .non H', rt := Q } (start N vs) H) : FnOk P w K mg base CX0 (k + 1) f fd ps (spN ps.length sp) :=
  F.ok S (fun _ _ _ _ z => z.1) (fun cdv A outer s H vs Q E hr z => hbody cdv A outer s H vs Q E hr z.2)
end
def tCalM (C : Addr) (m : Str) (n : Nat) (sp : Sp) (ta : TE) (t : TA) : TE := fun σ H Q => ta σ H fun x H1 => ∃ a dx fs, x = .ref a ∧ H1 a = some (.ins C dx fs) ∧ fs.lookup m = none ∧ t σ H1 fun vs H2 => (x :: vs).length = n ∧ sp (x :: vs) H2 Q E0
def tMkI (C : Addr) (n : Nat) (sp : Sp) (t : TA) : TE := fun σ H Q => t σ H fun vs H1 => ∀ x dx, H1 x = none → H1 dx = none → dx ≠ x → (V.ref x :: vs).length = n ∧ sp (.ref x :: vs) (upd (upd H1 dx (.own x)) x (.ins C dx [])) (fun v H2 => v = .non ∧ Q (.ref x) H2) E0
section
variable {X : Cx} {k j : Nat} {C : Addr} {x m : Str} {ps : List Str} {sp : Sp} {o e : Expr} {es : List Expr} {p apos pos : Pos} {ta : TE} {t : TA}
theorem pe_calM0 {pl : Sem Bool} (M : CalM X.prog X.w X.K X.mg X.base k C m ps sp) (c : Cls X.K C) (hr : Room j X.A) (hkj : k ≤ j) (he : PE X o ta)
    (ht : eval (.Call (.Attribute o m apos) [] [] pos) X.env = (do let ov ← eval o X.env; standAt apos.atName; let (f, first) ← holding [ov] (getMethod ov m pl); callWith pos f first (backTo pos (starEach [] X.env)) (backToKw pos (keywordEach [] X.env))) := by rfl) :
    PE X (.Call (.Attribute o m apos) [] [] pos) (tCalM C m ps.length sp ta tNil) := by
  obtain ⟨f, fd, mt, F, hb⟩ := M.ex
  have q := pe_meth0 (pl := pl) (apos := apos) (pos := pos) he c mt F (hr.mono hkj) hb .nil pass0 ht
  exact ⟨fun pins s σ H Q I h => q.run pins s σ H Q I h⟩
theorem pe_calM {pl : Sem Bool} (M : CalM X.prog X.w X.K X.mg X.base k C m ps sp) (c : Cls X.K C) (hr : Room j X.A) (hkj : k ≤ j) (he : PE X o ta) (ha : PA X (e :: es) t)
    (hst : starEach (e :: es) X.env = (false, eval e X.env) :: starEach es X.env := by rfl) (hno : (backTo pos (starEach es X.env)).any (·.1) = false := by rfl)
    (ht : eval (.Call (.Attribute o m apos) (e :: es) [] pos) X.env = (do let ov ← eval o X.env; standAt apos.atName; let (f, first) ← holding [ov] (getMethod ov m pl); callWith pos f first (backTo pos (starEach (e :: es) X.env)) (backToKw pos (keywordEach [] X.env))) := by rfl) :
    PE X (.Call (.Attribute o m apos) (e :: es) [] pos) (tCalM C m ps.length sp ta t) := by
  obtain ⟨f, fd, mt, F, hb⟩ := M.ex
  have q := pe_meth (pl := pl) (apos := apos) (pos := pos) he c mt F (hr.mono hkj) hb .nil pass0 ha hst hno ht
  refine ⟨fun pins s σ H Q I h => q.run pins s σ H Q I ?_⟩
  have e1 : ∀ y : V, (fun (vs : List V) (H2 : Hp) => (y :: vs).length = ps.length ∧ sp (y :: vs) H2 Q E0) = fun vs H2 => spN ps.length sp (y :: (vs ++ [])) H2 Q E0 := fun y => by
    funext vs H2
    rw [List.append_nil]
    rfl
  unfold tCalM at h
  simp only [e1] at h
  exact h
theorem pe_mkI (M : CalI X.prog X.w X.K X.mg X.base k C x ps sp) (hr : Room j X.A) (hkj : k + 1 ≤ j) (hg : Gl X x) (ha : PA X (e :: es) t) (hdb : (x == ("__debug__" : Str)) = false := by decide)
    (hst : starEach (e :: es) X.env = (false, eval e X.env) :: starEach es X.env := by rfl) (hno : (backTo pos (starEach es X.env)).any (·.1) = false := by rfl) : PE X (.Call (.Name x p) (e :: es) [] pos) (tMkI C ps.length sp t) := by
  obtain ⟨f, fd, mk, F, hb, gm⟩ := M.ex
  have q := pe_make (p := p) mk F (hr.mono hkj) hg gm hb .nil pass0 ha hdb hst hno
  refine ⟨fun pins s σ H Q I h => q.run pins s σ H Q I ?_⟩
  have e1 : (fun (vs : List V) (H1 : Hp) => ∀ y dx, H1 y = none → H1 dx = none → dx ≠ y → (V.ref y :: vs).length = ps.length ∧ sp (.ref y :: vs) (upd (upd H1 dx (.own y)) y (.ins C dx [])) (fun v H2 => v = .non ∧ Q (.ref y) H2) E0) =
      fun vs H1 => ∀ y dx, H1 y = none → H1 dx = none → dx ≠ y → spN ps.length sp (.ref y :: (vs ++ [])) (upd (upd H1 dx (.own y)) y (.ins C dx [])) (fun v H2 => v = .non ∧ Q (.ref y) H2) E0 := by
    funext vs H1
    rw [List.append_nil]
    rfl
  unfold tMkI at h
  rw [e1] at h
  exact h
end
section
variable {K : PySem.W.Frag} {σ : L2.St} {H : Hp} {Q : VK} {C a dx : Addr} {f m : Str} {fs : List (Str × V)} {v : V} {ta tv : TE} {D : Ends}
theorem q_fld (q : ta σ H fun x H1 => ∃ a C dx fs v, x = .ref a ∧ H1 a = some (.ins C dx fs) ∧ Cls K C ∧ NoAttr K C f ∧ fs.lookup f = some v ∧ Q v H1) : tFld K ta f σ H Q := q
theorem q_fldA {R : V → Prop} (h : H a = some (.ins C dx fs)) (c : Cls K C) (n : NoAttr K C f) (l : fs.lookup f = some v) (q : R v) : ∃ a' C dx fs v, V.ref a = .ref a' ∧ H a' = some (.ins C dx fs) ∧ Cls K C ∧ NoAttr K C f ∧ fs.lookup f = some v ∧ R v := ⟨a, C, dx, fs, v, rfl, h, c, n, l, q⟩
theorem q_calM {n : Nat} {sp : Sp} {t : TA} (q : ta σ H fun x H1 => ∃ a dx fs, x = .ref a ∧ H1 a = some (.ins C dx fs) ∧ fs.lookup m = none ∧ t σ H1 fun vs H2 => (x :: vs).length = n ∧ sp (x :: vs) H2 Q E0) : tCalM C m n sp ta t σ H Q := q
theorem q_calMA {R : Prop} (h : H a = some (.ins C dx fs)) (l : fs.lookup m = none) (q : R) : ∃ a' dx fs, V.ref a = .ref a' ∧ H a' = some (.ins C dx fs) ∧ fs.lookup m = none ∧ R := ⟨a, dx, fs, rfl, h, l, q⟩
theorem q_mkI {n : Nat} {sp : Sp} {t : TA} (q : t σ H fun vs H1 => ∀ x dx, H1 x = none → H1 dx = none → dx ≠ x → (V.ref x :: vs).length = n ∧ sp (.ref x :: vs) (upd (upd H1 dx (.own x)) x (.ins C dx [])) (fun v H2 => v = .non ∧ Q (.ref x) H2) E0) : tMkI C n sp t σ H Q := q
theorem q_sfld (q : tv σ H fun y H1 => ta σ H1 fun x H2 => ∃ a C dx fs, x = .ref a ∧ H2 a = some (.ins C dx fs) ∧ Cls K C ∧ NoAttr K C f ∧ fs.length < 1000 ∧ D.nx σ (upd H2 a (.ins C dx (putF f y fs)))) : sFld K ta tv f D σ H := q
theorem q_sfldA {R : Addr → Addr → Addr → List (Str × V) → Prop} (h : H a = some (.ins C dx fs)) (c : Cls K C) (n : NoAttr K C f) (l : fs.length < 1000) (q : R a C dx fs) : ∃ a' C dx fs, V.ref a = .ref a' ∧ H a' = some (.ins C dx fs) ∧ Cls K C ∧ NoAttr K C f ∧ fs.length < 1000 ∧ R a' C dx fs := ⟨a, C, dx, fs, rfl, h, c, n, l, q⟩
end
/-- what does not change: tuples stay -/
def Im (H H' : Hp) : Prop := ∀ b xs, H b = some (.tup xs) → H' b = some (.tup xs)
theorem Im.refl (H : Hp) : Im H H := fun _ _ h => h
theorem Im.trans {H H1 H2 : Hp} (a : Im H H1) (b : Im H1 H2) : Im H H2 := fun c xs h => b c xs (a c xs h)
theorem Same.im {H H' : Hp} (s : Same H H') : Im H H' := fun b xs h => s b _ h
theorem Go.im {bx : Addr} {H H' : Hp} (g : Go bx H H') (h : ∀ xs, H bx ≠ some (.tup xs)) : Im H H' := fun b xs e => g b _ e fun z => h xs (z ▸ e)
theorem Im.lst {H : Hp} {o : Addr} {xs : List V} {z : HO} (ho : H o = some (.lst xs)) : Im H (upd H o z) := fun b ys e => by
  rw [upd_ne (fun q => by rw [q, ho] at e; cases e)]; exact e
theorem Box4.im {H H' : Hp} {bx : Addr} {n : Int} (B : Box4 H bx n) (g : Go bx H H') : Im H H' := g.im fun xs e => by
  obtain ⟨_, _, _, _, h1, _⟩ := B
  rw [h1] at e
  cases e
theorem NQ.im {H H' : Hp} {v : V} {q : Rat} (h : NQ H v q) (s : Im H H') : NQ H' v q := by
  rcases h with ⟨h1, h2⟩ | ⟨a, h1, ha, hb⟩
  · exact .inl ⟨h1, h2⟩
  · exact .inr ⟨a, h1, s _ _ ha, hb⟩
/-- values one by one -/
structure Pz {α : Type} (R : V → α → Prop) (vs : List V) (xs : List α) : Prop where
  len : vs.length = xs.length
  get : ∀ (i : Nat) (x : α), xs[i]? = some x → ∃ v, vs[i]? = some v ∧ R v x
section
variable {α β : Type} {R : V → α → Prop} {vs ws : List V} {xs ys : List α}
theorem Pz.nil : Pz R [] [] := ⟨rfl, fun _ _ e => by simp at e⟩
theorem Pz.map {S : V → α → Prop} (h : Pz R vs xs) (k : ∀ v x, R v x → S v x) : Pz S vs xs := ⟨h.len, fun i x e => let ⟨v, e1, e2⟩ := h.get i x e; ⟨v, e1, k v x e2⟩⟩
theorem Pz.app (h : Pz R vs xs) (k : Pz R ws ys) : Pz R (vs ++ ws) (xs ++ ys) := ⟨by rw [List.length_append, List.length_append, h.len, k.len], fun i x e => by
  rw [List.getElem?_append] at e ⊢
  rw [h.len]
  split at e
  · rename_i hi
    rw [if_pos hi]; exact h.get i x e
  · rename_i hi
    rw [if_neg hi]; exact k.get _ x e⟩
theorem Pz.one {v : V} {x : α} (h : R v x) : Pz R [v] [x] := ⟨rfl, fun i y e => by
  cases i with
  | zero => cases e; exact ⟨v, rfl, h⟩
  | succ n => simp at e⟩
theorem Pz.snoc {v : V} {x : α} (h : Pz R vs xs) (k : R v x) : Pz R (vs ++ [v]) (xs ++ [x]) := h.app (.one k)
theorem Pz.at_ (h : Pz R vs xs) {i : Nat} (hi : i < xs.length) : ∃ v, vs[i]? = some v ∧ R v xs[i] := h.get i _ (List.getElem?_eq_getElem hi)
theorem Pz.of (h : Pz R vs xs) {i : Nat} {v : V} (e : vs[i]? = some v) : ∃ x, xs[i]? = some x ∧ R v x := by
  have hi : i < xs.length := by rw [← h.len]; exact (List.getElem?_eq_some_iff.mp e).1
  obtain ⟨v', e1, e2⟩ := h.at_ hi
  rw [e] at e1
  cases e1
  exact ⟨_, List.getElem?_eq_getElem hi, e2⟩
theorem Pz.take (h : Pz R vs xs) (n : Nat) : Pz R (vs.take n) (xs.take n) := ⟨by rw [List.length_take, List.length_take, h.len], fun i x e => by
  rw [List.getElem?_take] at e ⊢
  split at e
  · rename_i hi
    rw [if_pos hi]; exact h.get i x e
  · cases e⟩
theorem Pz.drop (h : Pz R vs xs) (n : Nat) : Pz R (vs.drop n) (xs.drop n) := ⟨by rw [List.length_drop, List.length_drop, h.len], fun i x e => by
  rw [List.getElem?_drop] at e ⊢
  exact h.get _ x e⟩
end
theorem cutV_mid (xs : List V) {b e : Nat} (he : e ≤ xs.length) (hb : b ≤ e) : cutV xs (some (b : Int)) (some (e : Int)) = (xs.drop b).take (e - b) := by
  unfold cutV
  have h1 : HT.sIx xs.length 0 (some (b : Int)) = b := by rw [HT.sIx_nat]; omega
  have h2 : HT.sIx xs.length xs.length (some (e : Int)) = e := by rw [HT.sIx_nat]; omega
  rw [h1, h2]
end HP
namespace HP
open PySem PySem.Spec PyProof.Rows L2
/-! ### what stays where tuples stay -/
class ImR {α : Type} (R : Hp → V → α → Prop) : Prop where
  im : ∀ {H H' : Hp} {v : V} {x : α}, R H v x → Im H H' → R H' v x
abbrev PtO := Int × Int × Bool
abbrev PtQ := Rat × Rat
abbrev PtR := Rat × Rat × Bool
def PO (H : Hp) (v : V) (p : PtO) : Prop := ∃ t, v = .ref t ∧ H t = some (.tup [.int p.1, .int p.2.1, .bl p.2.2])
def PZ (H : Hp) (v : V) (p : PtZ) : Prop := ∃ t, v = .ref t ∧ H t = some (.tup [.int p.1, .int p.2])
def QP (H : Hp) (v : V) (q : PtQ) : Prop := ∃ t u w, v = .ref t ∧ H t = some (.tup [u, w]) ∧ NQ H u q.1 ∧ NQ H w q.2
def QO (H : Hp) (v : V) (q : PtR) : Prop := ∃ t u, v = .ref t ∧ H t = some (.tup [u, .bl q.2.2]) ∧ QP H u (q.1, q.2.1)
def IR (_ : Hp) (v : V) (i : Int) : Prop := v = .int i
def BR (_ : Hp) (v : V) (b : Bool) : Prop := v = .bl b
instance : ImR PO := ⟨fun ⟨t, e, h⟩ s => ⟨t, e, s _ _ h⟩⟩
instance : ImR PZ := ⟨fun ⟨t, e, h⟩ s => ⟨t, e, s _ _ h⟩⟩
instance : ImR QP := ⟨fun ⟨t, u, w, e, h, a, b⟩ s => ⟨t, u, w, e, s _ _ h, a.im s, b.im s⟩⟩
instance : ImR QO := ⟨fun ⟨t, u, e, h, a⟩ s => ⟨t, u, e, s _ _ h, ImR.im a s⟩⟩
instance : ImR IR := ⟨fun h _ => h⟩
instance : ImR BR := ⟨fun h _ => h⟩
instance : ImR NQ := ⟨fun h s => h.im s⟩
theorem Pz.im {α : Type} {R : Hp → V → α → Prop} [ImR R] {H H' : Hp} {vs : List V} {xs : List α} (h : Pz (R H) vs xs) (s : Im H H') : Pz (R H') vs xs := h.map fun _ _ z => ImR.im z s
/-- a list or a tuple of such -/
def Li {α : Type} (K : PySem.W.Frag) (tu : Bool) (R : Hp → V → α → Prop) (H : Hp) (a : Addr) (xs : List α) : Prop := ∃ vs, SqE tu K H a vs ∧ Pz (R H) vs xs
section
variable {α β : Type} {K : PySem.W.Frag} {tu : Bool} {R : Hp → V → α → Prop} {H H' H0 H1 : Hp} {a D r bx : Addr} {xs : List α}
theorem SqE.len {vs : List V} (h : SqE tu K H a vs) (Q : Prop) (q1 : SqL K H a vs → Q) (q2 : SqT K H a vs → Q) : Q := by
  cases tu
  · exact q1 (SqL.of h)
  · exact q2 (SqT.of h)
theorem Li.same [ImR R] (h : Li K tu R H a xs) (s : Same H H') : Li K tu R H' a xs := let ⟨vs, h1, h2⟩ := h; ⟨vs, h1.same s, h2.im (Same.im s)⟩
theorem Li.nil (h : H a = some (.lst [])) : Li K false R H a [] := ⟨[], h, .nil⟩
theorem Li.go [ImR R] {n : Int} (h : Li K tu R H a xs) (na : a ≠ bx) (B : Box4 H bx n) (g : Go bx H H') : Li K tu R H' a xs := by
  obtain ⟨vs, h1, h2⟩ := h
  refine ⟨vs, ?_, h2.im (B.im g)⟩
  cases tu
  · exact g _ _ h1 na
  · exact g _ _ h1 na
theorem Li.other [ImR R] {zs : List V} {z : HO} (h : Li K tu R H a xs) (na : a ≠ D) (hD : H D = some (.lst zs)) : Li K tu R (upd H D z) a xs := by
  obtain ⟨vs, h1, h2⟩ := h
  refine ⟨vs, ?_, h2.im (Im.lst hD)⟩
  cases tu
  · show upd H D z a = _
    rw [upd_ne na]; exact h1
  · show upd H D z a = _
    rw [upd_ne na]; exact h1
theorem Li.push [ImR R] {v : V} {x : α} (h : Li K false R H D xs) (e : R H v x) : ∃ acc : List V, H D = some (.lst acc) ∧ acc.length = xs.length ∧ Li K false R (upd H D (.lst (acc ++ [v]))) D (xs ++ [x]) := by
  obtain ⟨vs, h1, h2⟩ := h
  have s : Im H (upd H D (.lst (vs ++ [v]))) := Im.lst h1
  exact ⟨vs, h1, h2.len, vs ++ [v], upd_same, (h2.im s).snoc (ImR.im e s)⟩
theorem Li.join [ImR R] {ws : List V} {ys : List α} (h : Li K false R H D xs) (e : Pz (R H) ws ys) : ∃ acc : List V, H D = some (.lst acc) ∧ acc.length = xs.length ∧ Li K false R (upd H D (.lst (acc ++ ws))) D (xs ++ ys) := by
  obtain ⟨vs, h1, h2⟩ := h
  have s : Im H (upd H D (.lst (vs ++ ws))) := Im.lst h1
  exact ⟨vs, h1, h2.len, vs ++ ws, upd_same, (h2.im s).app (e.im s)⟩
theorem Li.ex (h : Li K false R H a xs) : ∃ vs, H a = some (.lst vs) ∧ Pz (R H) vs xs := h
/-- lists in a list, each apart -/
structure Rw (K : PySem.W.Frag) (R : Hp → V → α → Prop) (H : Hp) (a : Addr) (xss : List (List α)) : Prop where
  ex : ∃ cs : List Addr, H a = some (.lst (cs.map V.ref)) ∧ cs.length = xss.length ∧ cs.Nodup ∧ a ∉ cs ∧ ∀ (i : Nat) (xs : List α), xss[i]? = some xs → ∃ c, cs[i]? = some c ∧ Li K false R H c xs
variable {xss : List (List α)}
theorem Rw.same [ImR R] (h : Rw K R H a xss) (s : Same H H') : Rw K R H' a xss := by
  obtain ⟨cs, h1, h2, h3, h4, h5⟩ := h.ex
  exact ⟨cs, s _ _ h1, h2, h3, h4, fun i xs e => let ⟨c, e1, e2⟩ := h5 i xs e; ⟨c, e1, e2.same s⟩⟩
theorem Rw.nil (h : H a = some (.lst [])) : Rw K R H a [] := ⟨⟨[], h, rfl, List.nodup_nil, List.not_mem_nil, fun _ _ e => by simp at e⟩⟩
theorem Rw.push [ImR R] (h : Rw K R H0 D xss) (n : H0 r = none) (s : Same H0 H) (L : Li K false R H r xs) : ∃ acc : List V, H D = some (.lst acc) ∧ acc.length = xss.length ∧ Rw K R (upd H D (.lst (acc ++ [.ref r]))) D (xss ++ [xs]) := by
  obtain ⟨cs, h1, h2, h3, h4, h5⟩ := h.ex
  have hD := s _ _ h1
  have live : ∀ c ∈ cs, c ≠ r := by
    rintro c hc rfl
    obtain ⟨i, hi, rfl⟩ := List.getElem_of_mem hc
    obtain ⟨c', e1, vs, e2, _⟩ := h5 i _ (List.getElem?_eq_getElem (h2 ▸ hi))
    rw [List.getElem?_eq_getElem hi] at e1
    cases e1
    rw [show H0 cs[i] = some (.lst vs) from e2] at n
    cases n
  have rD : r ≠ D := fun z => by rw [z, h1] at n; cases n
  refine ⟨_, hD, by rw [List.length_map, h2], cs ++ [r], by rw [List.map_append]; exact upd_same, by simp [h2], ?_, ?_, fun i ys e => ?_⟩
  · refine List.nodup_append.mpr ⟨h3, by simp, fun c hc b hb => ?_⟩
    rw [List.mem_singleton.mp hb]
    exact live c hc
  · intro z
    rcases List.mem_append.mp z with z | z
    · exact h4 z
    · exact rD (List.mem_singleton.mp z).symm
  · rw [List.getElem?_append] at e ⊢
    split at e
    · rename_i hi
      rw [if_pos (by omega)]
      obtain ⟨c, e1, e2⟩ := h5 i ys e
      exact ⟨c, e1, (e2.same s).other (fun z => h4 (z ▸ List.mem_of_getElem? e1)) hD⟩
    · rename_i hi
      rw [if_neg (by omega), h2]
      cases q : i - xss.length with
      | zero => rw [q] at e; cases e; exact ⟨r, rfl, L.other rD hD⟩
      | succ n => rw [q] at e; simp at e
end
/-- under a list that is walked for another's items -/
theorem lc_in {J : It} {n : Nat} {G : Hp → Prop} {Y : Nat → Hp → V → Hp → Prop} (w : Walk J n G Y) {g : TG} {tt : TT} {te : TE} {vs : List Nat} {σ : L2.St} {D : Addr} {H4 : Hp} {Nx : Hp → Prop} (Pv : Nat → Hp → Prop) (h0 : Pv 0 H4) (hG : ∀ i H, i ≤ n → Pv i H → G H)
    (hs : ∀ i x H H', i < n → Pv i H → Y i H x H' → g x (wipe σ vs) H' fun σ2 H2 => wipe σ2 vs = wipe σ vs ∧ tt σ2 H2 fun b H3 => if b = true then te σ2 H3 fun y H4 => ∃ acc, H4 D = some (.lst acc) ∧ acc.length < sizeLine ∧ Pv (i + 1) (upd H4 D (.lst (acc ++ [y]))) else Pv (i + 1) H3)
    (hd : ∀ H, Pv n H → Nx H) :
    ∃ W : Nat → Nat → Hp → Prop, (∃ m, W 0 m H4) ∧ ∀ j k H, W j k H → (J.stop j H ∧ Nx H) ∨ (J.go j H ∧ ∃ Nx1 : Hp → Prop, (∀ H', Nx1 H' → ∃ k', k' < k ∧ W (j + 1) k' H') ∧ ∀ x H', J.yld j H x H' → g x (wipe σ vs) H' fun σ3 H5 => wipe σ3 vs = wipe σ vs ∧ tt σ3 H5 fun b H6 =>
        if b = true then te σ3 H6 fun y H7 => ∃ acc, H7 D = some (.lst acc) ∧ acc.length < sizeLine ∧ Nx1 (upd H7 D (.lst (acc ++ [y]))) else Nx1 H6) := by
  refine ⟨fun i m H => i + m = n ∧ Pv i H, ⟨n, Nat.zero_add _, h0⟩, ?_⟩
  intro i m H hW
  obtain ⟨e, p⟩ := hW
  have le : i ≤ n := by omega
  have q := hG i H le p
  rcases Nat.lt_or_ge i n with lt | ge
  · refine Or.inr ⟨w.goes i H lt q, Pv (i + 1), fun H' p' => ⟨m - 1, by omega, by omega, p'⟩, ?_⟩
    exact fun x H' y => hs i x H H' lt p (w.yields i H x H' lt q y)
  · have e2 : i = n := by omega
    subst e2
    exact Or.inl ⟨w.stops H q, hd H p⟩
theorem q_lc2 {wi wi1 : TI} {g g1 : TG} {tt tt1 : TT} {te : TE} {vs vs1 : List Nat} {σ : L2.St} {H : Hp} {Q : VK} (q : wi σ H fun J H1 => ∀ D, H1 D = none → ∃ W : Nat → Nat → Hp → Prop, (∃ m, W 0 m (upd H1 D (.lst []))) ∧ ∀ i m H, W i m H →
  (J.stop i H ∧ Q (.ref D) H) ∨ (J.go i H ∧ ∃ Nx : Hp → Prop, (∀ H', Nx H' → ∃ m', m' < m ∧ W (i + 1) m' H') ∧ ∀ x H', J.yld i H x H' → g x (wipe σ vs) H' fun σ2 H2 => wipe σ2 vs = wipe σ vs ∧ tt σ2 H2 fun b H3 => if b = true then wi1 σ2 H3 fun J1 H4 => ∃ W1 : Nat → Nat → Hp → Prop, (∃ m, W1 0 m H4) ∧ ∀ j k H, W1 j k H →
      (J1.stop j H ∧ Nx H) ∨ (J1.go j H ∧ ∃ Nx1 : Hp → Prop, (∀ H', Nx1 H' → ∃ k', k' < k ∧ W1 (j + 1) k' H') ∧ ∀ x H', J1.yld j H x H' → g1 x (wipe σ2 vs1) H' fun σ3 H5 => wipe σ3 vs1 = wipe σ2 vs1 ∧ tt1 σ3 H5 fun b H6 => if b = true then te σ3 H6 fun y H7 => ∃ acc, H7 D = some (.lst acc) ∧ acc.length < sizeLine ∧ Nx1 (upd H7 D (.lst (acc ++ [y]))) else Nx1 H6)
    else Nx H3)) : tLc2 wi g tt wi1 g1 tt1 te vs vs1 σ H Q := q
theorem lc2_list {K : PySem.W.Frag} {a : Addr} {xs : List V} {wi1 : TI} {g g1 : TG} {tt tt1 : TT} {te : TE} {vs vs1 : List Nat} {σ : L2.St} {H1 : Hp} {D : Addr} {Qd : Hp → Prop} (Pv : Nat → Hp → Prop) (h0 : Pv 0 (upd H1 D (.lst []))) (hl : ∀ i H, i ≤ xs.length → Pv i H → SqL K H a xs)
    (hs : ∀ i x H, xs[i]? = some x → Pv i H → g x (wipe σ vs) H fun σ2 H2 => wipe σ2 vs = wipe σ vs ∧ tt σ2 H2 fun b H3 => if b = true then wi1 σ2 H3 fun J1 H4 => ∃ W1 : Nat → Nat → Hp → Prop, (∃ m, W1 0 m H4) ∧ ∀ j k H, W1 j k H →
      (J1.stop j H ∧ Pv (i + 1) H) ∨ (J1.go j H ∧ ∃ Nx1 : Hp → Prop, (∀ H', Nx1 H' → ∃ k', k' < k ∧ W1 (j + 1) k' H') ∧ ∀ x H', J1.yld j H x H' → g1 x (wipe σ2 vs1) H' fun σ3 H5 => wipe σ3 vs1 = wipe σ2 vs1 ∧ tt1 σ3 H5 fun b H6 => if b = true then te σ3 H6 fun y H7 => ∃ acc, H7 D = some (.lst acc) ∧ acc.length < sizeLine ∧ Nx1 (upd H7 D (.lst (acc ++ [y]))) else Nx1 H6) else Pv (i + 1) H3)
    (hd : ∀ H, Pv xs.length H → Qd H) :
    ∃ W : Nat → Nat → Hp → Prop, (∃ m, W 0 m (upd H1 D (.lst []))) ∧ ∀ i m H, W i m H →
  ((Itl K a).stop i H ∧ Qd H) ∨ ((Itl K a).go i H ∧ ∃ Nx : Hp → Prop, (∀ H', Nx H' → ∃ m', m' < m ∧ W (i + 1) m' H') ∧ ∀ x H', (Itl K a).yld i H x H' → g x (wipe σ vs) H' fun σ2 H2 => wipe σ2 vs = wipe σ vs ∧ tt σ2 H2 fun b H3 => if b = true then wi1 σ2 H3 fun J1 H4 => ∃ W1 : Nat → Nat → Hp → Prop, (∃ m, W1 0 m H4) ∧ ∀ j k H, W1 j k H →
      (J1.stop j H ∧ Nx H) ∨ (J1.go j H ∧ ∃ Nx1 : Hp → Prop, (∀ H', Nx1 H' → ∃ k', k' < k ∧ W1 (j + 1) k' H') ∧ ∀ x H', J1.yld j H x H' → g1 x (wipe σ2 vs1) H' fun σ3 H5 => wipe σ3 vs1 = wipe σ2 vs1 ∧ tt1 σ3 H5 fun b H6 => if b = true then te σ3 H6 fun y H7 => ∃ acc, H7 D = some (.lst acc) ∧ acc.length < sizeLine ∧ Nx1 (upd H7 D (.lst (acc ++ [y]))) else Nx1 H6)
    else Nx H3) := by
  have w : Walk (Itl K a) xs.length (fun H => SqL K H a xs) (YAt xs) := walk_list
  refine ⟨fun i m H => i + m = xs.length ∧ Pv i H, ⟨xs.length, Nat.zero_add _, h0⟩, ?_⟩
  intro i m H hW
  obtain ⟨e, p⟩ := hW
  have le : i ≤ xs.length := by omega
  have q := hl i H le p
  rcases Nat.lt_or_ge i xs.length with lt | ge
  · refine Or.inr ⟨w.goes i H lt q, Pv (i + 1), fun H' p' => ⟨m - 1, by omega, by omega, p'⟩, ?_⟩
    intro x H' y
    obtain ⟨rfl, hx⟩ := w.yields i H x H' lt q y
    exact hs i x H' hx p
  · have e2 : i = xs.length := by omega
    subst e2
    exact Or.inl ⟨w.stops H q, hd H p⟩
/-- a slice of a list or of a tuple -/
def rSlE (K : PySem.W.Frag) : V → Option Int → Option Int → Hp → VK → Prop := fun x lo hi H Q => ∃ tu a xs, x = .ref a ∧ SqE tu K H a xs ∧ ∀ p H', Same H H' → SqE tu K H' p (cutV xs lo hi) → Q (.ref p) H'
theorem cutV_all {xs : List V} {lo hi : Option Int} (h1 : HT.sIx xs.length 0 lo = 0) (h2 : HT.sIx xs.length xs.length hi = xs.length) : cutV xs lo hi = xs := by
  unfold cutV
  rw [h1, h2]
  simp
theorem sl_seq {X : Cx} : SlR X (rSlE X.K) := by
  intro pins s σ H x v vl vu lo hi sl Q I rx hs pl pu h
  obtain ⟨tu, a, xs, rfl, hx, q⟩ := h
  cases tu
  · exact sl_list pins s σ H _ v vl vu lo hi sl Q I rx hs pl pu ⟨a, xs, rfl, SqL.of hx, fun p np => q p _ (Same.up np) upd_same⟩
  · refine sl_tupA pins s σ H _ v vl vu lo hi sl Q I rx hs pl pu ⟨a, xs, rfl, SqT.of hx, fun hw => q a H (Same.refl _) ?_, fun _ p np => q p _ (Same.up np) upd_same⟩
    rw [cutV_all hw.1 hw.2]
    exact hx
end HP
namespace HP
open PySem PySem.Spec PyProof.Rows L2
/-! ### rounds of points, and the polygons that they tell -/
def Nr (p : PtO) : Prop := p.1.natAbs ≤ 99999 ∧ p.2.1.natAbs ≤ 99999
structure OkO (rs : List (List PtO)) : Prop where
  l0 : 1 ≤ rs.length
  l1 : rs.length ≤ 4
  all : ∀ ps ∈ rs, 3 ≤ ps.length ∧ ps.length ≤ 12 ∧ ∀ p ∈ ps, Nr p
def atO (ps : List PtO) (i : Nat) : PtO := (ps[i]?).getD (0, 0, true)
theorem atO_eq {ps : List PtO} {i : Nat} (h : i < ps.length) : atO ps i = ps[i] := by unfold atO; rw [List.getElem?_eq_getElem h]; rfl
/-- a point doubled, and what is understood behind it -/
def dbl (p r : PtO) : List PtO := (2 * p.1, 2 * p.2.1, p.2.2) :: (if (!p.2.2) = true then (if (!r.2.2) = true then [(p.1 + r.1, p.2.1 + r.2.1, true)] else []) else [])
def rngT (ps : List PtO) : Nat → List PtO
  | 0 => []
  | k + 1 => rngT ps k ++ dbl (atO ps k) (atO ps ((k + 1) % ps.length))
def rngO (ps : List PtO) : List PtO := rngT ps ps.length
def rotO (R : List PtO) : List PtO := if (atO R 0).2.2 = true then R else R.drop (R.length - 1) ++ R.take (R.length - 1)
def ringO (ps : List PtO) : List PtO := rotO (rngO ps)
def Sm2 (p : PtO) : Prop := p.1.natAbs ≤ 199998 ∧ p.2.1.natAbs ≤ 199998
theorem dbl_len (p r : PtO) : 1 ≤ (dbl p r).length ∧ (dbl p r).length ≤ 2 := by
  unfold dbl
  split
  · split <;> simp
  · simp
theorem rngT_len (ps : List PtO) : ∀ k, k ≤ (rngT ps k).length ∧ (rngT ps k).length ≤ 2 * k
  | 0 => ⟨Nat.le_refl _, Nat.le_refl _⟩
  | k + 1 => by
    have h := rngT_len ps k
    have d := dbl_len (atO ps k) (atO ps ((k + 1) % ps.length))
    unfold rngT
    rw [List.length_append]
    omega
theorem dbl_sm {p r : PtO} (h : Nr p) (k : Nr r) : ∀ z ∈ dbl p r, Sm2 z := by
  obtain ⟨h1, h2⟩ := h
  obtain ⟨k1, k2⟩ := k
  intro z hz
  unfold dbl at hz
  rcases List.mem_cons.mp hz with e | hz
  · subst e
    exact ⟨by show (2 * p.1).natAbs ≤ _; omega, by show (2 * p.2.1).natAbs ≤ _; omega⟩
  · split at hz
    · split at hz
      · rw [List.mem_singleton.mp hz]
        exact ⟨by show (p.1 + r.1).natAbs ≤ _; omega, by show (p.2.1 + r.2.1).natAbs ≤ _; omega⟩
      · cases hz
    · cases hz
theorem nr_at {ps : List PtO} (h : ∀ p ∈ ps, Nr p) (i : Nat) : Nr (atO ps i) := by
  unfold atO
  cases e : ps[i]? with
  | none => exact ⟨by decide, by decide⟩
  | some p => exact h p (List.mem_of_getElem? e)
theorem rngT_sm {ps : List PtO} (h : ∀ p ∈ ps, Nr p) : ∀ k, ∀ z ∈ rngT ps k, Sm2 z
  | 0, z, hz => nomatch hz
  | k + 1, z, hz => by
    rcases List.mem_append.mp hz with e | e
    · exact rngT_sm h k z e
    · exact dbl_sm (nr_at h _) (nr_at h _) z e
theorem rotO_len (R : List PtO) : (rotO R).length = R.length := by
  unfold rotO
  split
  · rfl
  · rw [List.length_append, List.length_drop, List.length_take]; omega
theorem rotO_mem {R : List PtO} {z : PtO} (h : z ∈ rotO R) : z ∈ R := by
  unfold rotO at h
  split at h
  · exact h
  · rcases List.mem_append.mp h with e | e
    · exact List.mem_of_mem_drop e
    · exact List.mem_of_mem_take e
theorem ringO_len {ps : List PtO} : ps.length ≤ (ringO ps).length ∧ (ringO ps).length ≤ 2 * ps.length := by
  unfold ringO
  rw [rotO_len]
  exact rngT_len ps _
theorem ringO_sm {ps : List PtO} (h : ∀ p ∈ ps, Nr p) : ∀ z ∈ ringO ps, Sm2 z := fun z hz => rngT_sm h _ z (rotO_mem hz)
theorem sm_at {R : List PtO} (h : ∀ p ∈ R, Sm2 p) (i : Nat) : Sm2 (atO R i) := by
  unfold atO
  cases e : R[i]? with
  | none => exact ⟨by decide, by decide⟩
  | some p => exact h p (List.mem_of_getElem? e)
/-- the place of a doubled point, and of one that isn't -/
def pq (B : Int) (p : PtO) : PtQ := ((p.1 : Rat) / ((2 * B : Int) : Rat), (p.2.1 : Rat) / ((2 * B : Int) : Rat))
def plc (B : Int) (p : PtO) : PtQ := ((p.1 : Rat) / (B : Rat), (p.2.1 : Rat) / (B : Rat))
theorem dbl_q {B x : Int} (hB : 0 < B) : (x : Rat) / (B : Rat) = ((2 * x : Int) : Rat) / ((2 * B : Int) : Rat) := by
  have hB0 : (B : Rat) ≠ 0 := int_ne (by omega)
  rw [Rat.intCast_mul, Rat.intCast_mul]
  have h2 : ((2 : Int) : Rat) ≠ 0 := int_ne (by decide)
  grind
theorem amid_q {B x y : Int} (hB : 0 < B) : ((x : Rat) / (B : Rat) + (y : Rat) / (B : Rat)) / ((2 : Int) : Rat) = ((x + y : Int) : Rat) / ((2 * B : Int) : Rat) := by
  have hB0 : (B : Rat) ≠ 0 := int_ne (by omega)
  rw [Rat.intCast_add, Rat.intCast_mul]
  have h2 : ((2 : Int) : Rat) ≠ 0 := int_ne (by decide)
  grind
def wgt (c s x y z : Int) : Int := (c - s) * (c - s) * x + 2 * s * (c - s) * y + s * s * z
theorem wgt_q {B c s x y z : Int} (hB : 0 < B) (hc : 0 < c) :
    (0 + (x : Rat) / ((2 * B : Int) : Rat) * (((c - s) * (c - s) : Int) : Rat) + (y : Rat) / ((2 * B : Int) : Rat) * ((2 * s * (c - s) : Int) : Rat) + (z : Rat) / ((2 * B : Int) : Rat) * ((s * s : Int) : Rat)) / ((c * c : Int) : Rat) = ((wgt c s x y z : Int) : Rat) / ((2 * c * c * B : Int) : Rat) := by
  unfold wgt
  have hB0 : (B : Rat) ≠ 0 := int_ne (by omega)
  have hc0 : (c : Rat) ≠ 0 := int_ne (by omega)
  have h2 : ((2 : Int) : Rat) ≠ 0 := int_ne (by decide)
  generalize (c - s) * (c - s) = k1
  generalize 2 * s * (c - s) = k2
  generalize s * s = k3
  simp only [Rat.intCast_mul, Rat.intCast_add]
  grind
def crvT (B c : Int) (p o r : PtO) : Nat → List PtQ
  | 0 => []
  | k + 1 => crvT B c p o r k ++ [(((wgt c (1 + (k : Int)) p.1 o.1 r.1 : Int) : Rat) / ((2 * c * c * B : Int) : Rat), ((wgt c (1 + (k : Int)) p.2.1 o.2.1 r.2.1 : Int) : Rat) / ((2 * c * c * B : Int) : Rat))]
def segO (B c : Int) (R : List PtO) (k : Nat) : List PtQ := if (atO R k).2.2 = true then [pq B (atO R k)] else crvT B c (atO R ((k + R.length - 1) % R.length)) (atO R k) (atO R ((k + 1) % R.length)) (c - 1).toNat
def polT (B c : Int) (R : List PtO) : Nat → List PtQ
  | 0 => []
  | k + 1 => polT B c R k ++ segO B c R k
def polO (B c : Int) (ps : List PtO) : List PtQ := polT B c (ringO ps) (ringO ps).length
theorem crvT_len (B c : Int) (p o r : PtO) : ∀ k, (crvT B c p o r k).length = k
  | 0 => rfl
  | k + 1 => by unfold crvT; rw [List.length_append, crvT_len]; rfl
theorem segO_len {B c : Int} (hc : c ≤ 4) (R : List PtO) (k : Nat) : (segO B c R k).length ≤ 3 := by
  unfold segO
  split
  · simp
  · rw [crvT_len]; omega
theorem polT_len {B c : Int} (hc : c ≤ 4) (R : List PtO) : ∀ k, (polT B c R k).length ≤ 3 * k
  | 0 => Nat.le_refl _
  | k + 1 => by
    have h := polT_len (B := B) hc R k
    have d := segO_len (B := B) hc R k
    unfold polT
    rw [List.length_append]
    omega
theorem polO_len {B c : Int} (hc : c ≤ 4) {ps : List PtO} (h : ps.length ≤ 12) : (polO B c ps).length ≤ 72 := by
  have := polT_len (B := B) hc (ringO ps) (ringO ps).length
  have r := @ringO_len ps
  unfold polO
  omega
/-- small numbers -/
def SmQ (q : PtQ) : Prop := BQ 100 q.1 ∧ BQ 100 q.2
theorem bt_sm {n : Nat} {x : Int} {m : Nat} (h : x.natAbs ≤ m) (k : m < 2 ^ n) : Bt n x := ⟨Nat.lt_of_le_of_lt h k⟩
theorem pq_sm {B : Int} (hB : 0 < B) (bB : Bt 8 B) {p : PtO} (h : Sm2 p) : SmQ (pq B p) := by
  have b2 : Bt 11 (2 * B) := ((⟨by decide⟩ : Bt 2 2).mul bB).mono (by decide)
  exact ⟨BQ.of ((bt_sm (n := 18) h.1 (by decide)).mono (by decide)) (b2.mono (by decide)) (by omega), BQ.of ((bt_sm (n := 18) h.2 (by decide)).mono (by decide)) (b2.mono (by decide)) (by omega)⟩
theorem wgt_bt {c s x y z : Int} (hc : 1 ≤ c) (hc4 : c ≤ 4) (hs : 0 ≤ s) (hsc : s ≤ c) (hx : x.natAbs ≤ 199998) (hy : y.natAbs ≤ 199998) (hz : z.natAbs ≤ 199998) : Bt 80 (wgt c s x y z) := by
  have b1 : Bt 3 (c - s) := ⟨show _ < 8 by omega⟩
  have b2 : Bt 3 s := ⟨show _ < 8 by omega⟩
  have bx := bt_sm (n := 18) hx (by decide)
  have b_y := bt_sm (n := 18) hy (by decide)
  have bz := bt_sm (n := 18) hz (by decide)
  have t1 : Bt 40 ((c - s) * (c - s) * x) := ((b1.mul b1).mul bx).mono (by decide)
  have t2 : Bt 40 (2 * s * (c - s) * y) := ((((⟨by decide⟩ : Bt 2 2).mul b2).mul b1).mul b_y).mono (by decide)
  have t3 : Bt 40 (s * s * z) := ((b2.mul b2).mul bz).mono (by decide)
  exact (((t1.add2 t2).mono (show 41 ≤ 41 by decide)).add2 (t3.mono (by decide))).mono (by decide)
theorem ccB_bt {c B : Int} (hc : 1 ≤ c) (hc4 : c ≤ 4) (bB : Bt 8 B) : Bt 20 (2 * c * c * B) := by
  have b2 : Bt 3 c := ⟨show _ < 8 by omega⟩
  exact ((((⟨by decide⟩ : Bt 2 2).mul b2).mul b2).mul bB).mono (by decide)
theorem ccB_pos {c B : Int} (hc : 1 ≤ c) (hB : 0 < B) : 0 < 2 * c * c * B := Int.mul_pos (Int.mul_pos (Int.mul_pos (by decide) (by omega)) (by omega)) hB
theorem crvT_sm {B c : Int} (hB : 0 < B) (bB : Bt 8 B) (hc : 1 ≤ c) (hc4 : c ≤ 4) {p o r : PtO} (hp : Sm2 p) (ho : Sm2 o) (hr : Sm2 r) : ∀ k : Nat, (k : Int) < c → ∀ q ∈ crvT B c p o r k, SmQ q
  | 0, _, q, hq => nomatch hq
  | k + 1, hk, q, hq => by
    unfold crvT at hq
    rcases List.mem_append.mp hq with e | e
    · exact crvT_sm hB bB hc hc4 hp ho hr k (by omega) q e
    · rw [List.mem_singleton.mp e]
      have hne : 2 * c * c * B ≠ 0 := by have := ccB_pos hc hB; omega
      exact ⟨BQ.of ((wgt_bt hc hc4 (by omega) (by omega) hp.1 ho.1 hr.1).mono (by decide)) ((ccB_bt hc hc4 bB).mono (by decide)) hne, BQ.of ((wgt_bt hc hc4 (by omega) (by omega) hp.2 ho.2 hr.2).mono (by decide)) ((ccB_bt hc hc4 bB).mono (by decide)) hne⟩
theorem polT_sm {B c : Int} (hB : 0 < B) (bB : Bt 8 B) (hc : 1 ≤ c) (hc4 : c ≤ 4) {R : List PtO} (h : ∀ p ∈ R, Sm2 p) : ∀ k, ∀ q ∈ polT B c R k, SmQ q
  | 0, q, hq => nomatch hq
  | k + 1, q, hq => by
    unfold polT at hq
    rcases List.mem_append.mp hq with e | e
    · exact polT_sm hB bB hc hc4 h k q e
    · unfold segO at e
      split at e
      · rw [List.mem_singleton.mp e]; exact pq_sm hB bB (sm_at h _)
      · exact crvT_sm hB bB hc hc4 (sm_at h _) (sm_at h _) (sm_at h _) _ (by omega) q e
/-- where rounds lie among all points -/
theorem flat_cut {α : Type} : ∀ (rs : List (List α)) (i : Nat) (h : i < rs.length), (rs.flatten.drop (rs.take i).flatten.length).take (rs[i]).length = rs[i]
  | [], _, h => nomatch h
  | r :: rs, 0, _ => by simp
  | r :: rs, i + 1, h => by
    have ih := flat_cut rs i (by simpa using h)
    rw [List.take_succ_cons, List.flatten_cons, List.flatten_cons, List.length_append, List.drop_append]
    have e1 : r.drop (r.length + (rs.take i).flatten.length) = [] := List.drop_eq_nil_of_le (by omega)
    rw [e1, List.nil_append, show r.length + (rs.take i).flatten.length - r.length = (rs.take i).flatten.length by omega]
    exact ih
def begO {α : Type} (rs : List (List α)) (i : Nat) : Nat := (rs.take i).flatten.length
theorem begO_succ {α : Type} {rs : List (List α)} {i : Nat} (h : i < rs.length) : begO rs (i + 1) = begO rs i + rs[i].length := by
  unfold begO
  rw [List.take_add_one, List.getElem?_eq_getElem h, List.flatten_append, List.length_append]
  simp
theorem begO_le {α : Type} (rs : List (List α)) : ∀ i, i ≤ rs.length → begO rs i ≤ rs.flatten.length := fun i hi => by
  have e : rs.flatten = (rs.take i).flatten ++ (rs.drop i).flatten := by rw [← List.flatten_append, List.take_append_drop]
  rw [e, List.length_append]
  exact Nat.le_add_right _ _
def endsO {α : Type} (rs : List (List α)) : List Int := (List.range rs.length).map fun k => (begO rs (k + 1) : Int) - 1
theorem endsO_get {α : Type} {rs : List (List α)} {i : Nat} (h : i < rs.length) : (endsO rs)[i]? = some ((begO rs (i + 1) : Int) - 1) := by
  unfold endsO
  rw [List.getElem?_map, List.getElem?_range h]
  rfl
theorem endsO_len {α : Type} (rs : List (List α)) : (endsO rs).length = rs.length := by unfold endsO; simp
theorem endsO_snoc {α : Type} {rs : List (List α)} {i : Nat} (h : i < rs.length) : (endsO rs).take (i + 1) = (endsO rs).take i ++ [(begO rs (i + 1) : Int) - 1] := by
  rw [List.take_add_one, endsO_get h]
  rfl
theorem flat_len {rs : List (List PtO)} (h : ∀ ps ∈ rs, ps.length ≤ 12) : rs.flatten.length ≤ 12 * rs.length := by
  induction rs with
  | nil => exact Nat.le_refl _
  | cons r rs ih =>
    have h1 := h r List.mem_cons_self
    have h2 := ih fun ps hp => h ps (List.mem_cons_of_mem _ hp)
    rw [List.flatten_cons, List.length_append, List.length_cons]
    omega
end HP
namespace HP
open PySem PySem.Spec PyProof.Rows L2
def PL (B : Int) (H : Hp) (v : V) (p : PtO) : Prop := QP H v (plc B p)
def PX (H : Hp) (v : V) (p : PtO) : Prop := ∃ t, v = .ref t ∧ H t = some (.tup [.int p.1, .int p.2.1])
def TR (_ : Hp) (v : V) (p : PtO) : Prop := v = .bl p.2.2
def RO (B : Int) (H : Hp) (v : V) (p : PtO) : Prop := ∃ t u, v = .ref t ∧ H t = some (.tup [u, .bl p.2.2]) ∧ QP H u (pq B p)
instance {B : Int} : ImR (PL B) := ⟨fun h s => ImR.im (R := QP) h s⟩
instance : ImR PX := ⟨fun ⟨t, e, h⟩ s => ⟨t, e, s _ _ h⟩⟩
instance : ImR TR := ⟨fun h _ => h⟩
instance {B : Int} : ImR (RO B) := ⟨fun ⟨t, u, e, h, a⟩ s => ⟨t, u, e, s _ _ h, ImR.im (R := QP) a s⟩⟩
/-- an Outline -/
def outF (r : Addr) : List (Str × V) := putF "_rounds" (.ref r) []
theorem outF_get (r : Addr) : (outF r).lookup ("_rounds" : Str) = some (.ref r) := by unfold outF; rw [lookup_putF, if_pos rfl]
theorem outF_no (r : Addr) {m : Str} (h : ¬ m = "_rounds") : (outF r).lookup m = none := by unfold outF; rw [lookup_putF, if_neg h]; rfl
structure OutAt (K : PySem.W.Frag) (C : Addr) (H : Hp) (p : Addr) (rs : List (List PtO)) : Prop where
  ex : ∃ dx r, H p = some (.ins C dx (outF r)) ∧ Rw K PO H r rs
theorem OutAt.same {K : PySem.W.Frag} {C : Addr} {H H' : Hp} {p : Addr} {rs : List (List PtO)} (h : OutAt K C H p rs) (s : Same H H') : OutAt K C H' p rs := by
  obtain ⟨dx, r, h1, h2⟩ := h.ex
  exact ⟨dx, r, s _ _ h1, h2.same s⟩
def spPtO (K : PySem.W.Frag) : Sp := fun vs H Q _ => ∃ v p, vs = [v] ∧ PO H v p ∧ Nr p ∧ Q (.bl true) H
def spNearO : Sp := fun vs H Q _ => ∃ x : Int, vs = [.int x] ∧ x.natAbs ≤ 99999 ∧ Q (.bl true) H
def spNeedR (K : PySem.W.Frag) : Sp := fun vs H Q _ => ∃ a rs, vs = [.ref a] ∧ Rw K PO H a rs ∧ OkO rs ∧ ∀ H', Same H H' → Q .non H'
def spInitO (K : PySem.W.Frag) (C : Addr) : Sp := fun vs H Q _ => ∃ p dx a rs, vs = [.ref p, .ref a] ∧ H p = some (.ins C dx []) ∧ Rw K PO H a rs ∧ OkO rs ∧ ∀ H', (∀ b o, H b = some o → b ≠ p → H' b = some o) → OutAt K C H' p rs → Q .non H'
def spAllO {α : Type} (K : PySem.W.Frag) (C : Addr) (R : Hp → V → α → Prop) (f : List (List PtO) → List α) : Sp := fun vs H Q _ => ∃ p rs, vs = [.ref p] ∧ OutAt K C H p rs ∧ OkO rs ∧ ∀ r H', Same H H' → H r = none → Li K false R H' r (f rs) → Q (.ref r) H'
def spAmid : Sp := fun vs H Q _ => ∃ B v u p r, vs = [v, u] ∧ 0 < B ∧ Bt 8 B ∧ PL B H v p ∧ PL B H u r ∧ Nr p ∧ Nr r ∧ ∀ t H', Same H H' → QP H' t (pq B (p.1 + r.1, p.2.1 + r.2.1, true)) → Q t H'
def spUnder (K : PySem.W.Frag) : Sp := fun vs H Q _ => ∃ tu tv B a b ps, vs = [.ref a, .ref b] ∧ 0 < B ∧ Bt 8 B ∧ Li K tu (PL B) H a ps ∧ Li K tv TR H b ps ∧ 3 ≤ ps.length ∧ ps.length ≤ 12 ∧ (∀ p ∈ ps, Nr p) ∧ ∀ r H', Same H H' → H r = none → Li K false (RO B) H' r (rngO ps) → Q (.ref r) H'
def spWgh (K : PySem.W.Frag) : Sp := fun vs H Q _ => ∃ a c s x y z, vs = [.ref a, .int s, .int c] ∧ Li K false NQ H a [x, y, z] ∧ BQ 100 x ∧ BQ 100 y ∧ BQ 100 z ∧ 1 ≤ s ∧ s < c ∧ c ≤ 4 ∧
  ∀ v H', Same H H' → NQ H' v ((0 + x * (((c - s) * (c - s) : Int) : Rat) + y * ((2 * s * (c - s) : Int) : Rat) + z * ((s * s : Int) : Rat)) / ((c * c : Int) : Rat)) → Q v H'
def spCurve (K : PySem.W.Frag) : Sp := fun vs H Q _ => ∃ B c u v w p o r, vs = [u, v, w, .int c] ∧ 0 < B ∧ Bt 8 B ∧ QP H u (pq B p) ∧ QP H v (pq B o) ∧ QP H w (pq B r) ∧ Sm2 p ∧ Sm2 o ∧ Sm2 r ∧ 1 ≤ c ∧ c ≤ 4 ∧
  ∀ t H', Same H H' → H t = none → Li K false QP H' t (crvT B c p o r (c - 1).toNat) → Q (.ref t) H'
def spPolyO (K : PySem.W.Frag) : Sp := fun vs H Q _ => ∃ tu tv B c a b ps, vs = [.ref a, .ref b, .int c] ∧ 0 < B ∧ Bt 8 B ∧ Li K tu (PL B) H a ps ∧ Li K tv TR H b ps ∧ 3 ≤ ps.length ∧ ps.length ≤ 12 ∧ (∀ p ∈ ps, Nr p) ∧ 1 ≤ c ∧ c ≤ 4 ∧ ∀ r H', Same H H' → H r = none → Li K false QP H' r (polO B c ps) → Q (.ref r) H'
def spPolysO (K : PySem.W.Frag) : Sp := fun vs H Q _ => ∃ t1 t2 t3 B c a e b rs, vs = [.ref a, .ref e, .ref b, .int c] ∧ 0 < B ∧ Bt 8 B ∧ Li K t1 (PL B) H a rs.flatten ∧ Li K t2 IR H e (endsO rs) ∧ Li K t3 TR H b rs.flatten ∧ OkO rs ∧ 1 ≤ c ∧ c ≤ 4 ∧
  ∀ r H', Same H H' → H r = none → Rw K QP H' r (rs.map (polO B c)) → (∀ xs, H' r = some (.lst xs) → ∀ d, V.ref d ∈ xs → H d = none) → Q (.ref r) H'
/-! the law's own -/
def spRoundsL (K : PySem.W.Frag) : Sp := fun vs H Q _ => ∃ (bx : Addr) (n : Int), vs = [.ref bx] ∧ Box4 H bx n ∧ n < 900000 ∧ ∀ r rs H', Go bx H H' → Box4 H' bx (n + 300) → H r = none → r ≠ bx → Rw K PO H' r rs → OkO rs → Q (.ref r) H'
def spRingL (K : PySem.W.Frag) : Sp := fun vs H Q _ => ∃ a ps, vs = [.ref a] ∧ Li K false PO H a ps ∧ 3 ≤ ps.length ∧ ps.length ≤ 12 ∧ (∀ p ∈ ps, Nr p) ∧ ∀ r H', Same H H' → H r = none → Li K false PO H' r (ringO ps) → Q (.ref r) H'
def spCurveL (K : PySem.W.Frag) : Sp := fun vs H Q _ => ∃ B c u v w p o r, vs = [u, v, w, .int c, .int B] ∧ 0 < B ∧ Bt 8 B ∧ PO H u p ∧ PO H v o ∧ PO H w r ∧ Sm2 p ∧ Sm2 o ∧ Sm2 r ∧ 1 ≤ c ∧ c ≤ 4 ∧
  ∀ t H', Same H H' → H t = none → Li K false QP H' t (crvT B c p o r (c - 1).toNat) → Q (.ref t) H'
def spPolyL (K : PySem.W.Frag) : Sp := fun vs H Q _ => ∃ B c a ps, vs = [.ref a, .int c, .int B] ∧ 0 < B ∧ Bt 8 B ∧ Li K false PO H a ps ∧ 3 ≤ ps.length ∧ ps.length ≤ 12 ∧ (∀ p ∈ ps, Nr p) ∧ 1 ≤ c ∧ c ≤ 4 ∧ ∀ r H', Same H H' → H r = none → Li K false QP H' r (polO B c ps) → Q (.ref r) H'
def spRightO (K : PySem.W.Frag) (C : Addr) : Sp := fun vs H Q _ => ∃ (bx : Addr) (n B : Int) (a p : Addr) (rs : List (List PtO)), vs = [.ref bx, .ref a, .ref p, .int B] ∧ Box4 H bx n ∧ n < 950000 ∧ 0 < B ∧ Bt 8 B ∧ Rw K PO H a rs ∧ OutAt K C H p rs ∧ OkO rs ∧ ∀ H', Go bx H H' → Q (.bl true) H'
end HP
namespace HP
open PySem PySem.Spec PyProof.Rows L2
section
variable {K : PySem.W.Frag} {σ : L2.St} {H : Hp} {Q : VK} {D : Ends} {te : TE}
theorem q_aug {i : Nat} {a : V} {f : Int → Int → Int} (h : σ[i]? = some (some a)) (q : te σ H fun y H1 => ipI f a y H1 fun z H2 => D.nx (σ.set i (some z)) H2) : tAug i te (ipI f) D σ H := ⟨a, h, q⟩
theorem q_rng2 {ta : TA} {R : It → Hp → Prop} (q : ta σ H fun vs H1 => ∃ i j : Int, vs = [.int i, .int j] ∧ (-(2 ^ 62) ≤ i ∧ i < 2 ^ 62 ∧ -(2 ^ 62) ≤ j ∧ j < 2 ^ 62) ∧ R (Itr i (j - i).toNat) H1) : iRng2 ta σ H R := q
theorem q_ipA {a b : Int} {R : VK} (q : R (.int (a + b)) H) : ipI (fun i j => i + j) (.int a) (.int b) H R := ⟨a, b, rfl, rfl, q⟩
theorem q_bb {b : Bool} (q : Q (.bl true) H) : rIsi K [.bl b, .ty "bool"] H Q := q_isi (.base (.bl _)) k_bb q
theorem q_star {t : TA} {R : List V → Hp → Prop} (q : te σ H fun x H1 => ∃ p xs, x = V.ref p ∧ (SqT K H1 p xs ∨ SqL K H1 p xs) ∧ t σ H1 fun ys H2 => R (xs ++ ys) H2) : StX.tStar K te t σ H R := q
theorem q_starL {a : Addr} {xs : List V} {R : Addr → List V → Prop} (h : H a = some (.lst xs)) (q : R a xs) : ∃ p ys, V.ref a = V.ref p ∧ (SqT K H p ys ∨ SqL K H p ys) ∧ R p ys := ⟨a, xs, rfl, .inr (SqL.of h), q⟩
theorem atI_bk {xs : List V} {k : Nat} {v : V} (hk : 1 ≤ k) (hl : k ≤ xs.length) (e : xs[xs.length - k]? = some v) : atI xs (-(k : Int)) = some v := by
  have h : ixN xs.length (-(k : Int)) = some (xs.length - k) := by
    unfold ixN
    rw [if_neg (by omega), if_pos (by omega)]
    congr 1
    omega
  unfold atI
  rw [h]
  exact e
theorem q_ixP {p : Addr} {xs : List V} {i : Nat} {v : V} (h : SqL K H p xs) (hi : i < xs.length) (e : xs[(i + xs.length - 1) % xs.length]? = some v) (q : Q v H) : rIxL K (.ref p) (.int ((i : Int) - 1)) H Q := by
  refine ⟨p, xs, _, v, rfl, rfl, h, ?_, q⟩
  cases i with
  | zero =>
    have e1 : (0 + xs.length - 1) % xs.length = xs.length - 1 := by rw [Nat.zero_add]; exact Nat.mod_eq_of_lt (by omega)
    rw [e1] at e
    exact atI_bk (k := 1) (Nat.le_refl _) (by omega) e
  | succ n =>
    have e1 : (n + 1 + xs.length - 1) % xs.length = n := by
      rw [show n + 1 + xs.length - 1 = n + xs.length by omega, Nat.add_mod_right]
      exact Nat.mod_eq_of_lt (by omega)
    rw [e1] at e
    rw [show (((n + 1 : Nat) : Int) - 1) = (n : Int) by omega]
    exact atI_nat e
theorem q_ixN {p : Addr} {xs : List V} {v : V} (h : SqL K H p xs) (hi : 0 < xs.length) (e : xs[xs.length - 1]? = some v) (q : Q v H) : rIxL K (.ref p) (.int (-1)) H Q := ⟨p, xs, _, v, rfl, rfl, h, atI_bk (k := 1) (Nat.le_refl _) hi e, q⟩
theorem cut_bk (xs : List V) {k : Nat} (hk : 1 ≤ k) : cutV xs (some (-(k : Int))) none = xs.drop (xs.length - k) := by
  have h1 : HT.sIx xs.length 0 (some (-(k : Int))) = xs.length - k := by
    show (if -(k : Int) < 0 then (-(k : Int) + (xs.length : Int)).toNat else _) = _
    rw [if_pos (by omega)]
    omega
  have h2 : HT.sIx xs.length xs.length none = xs.length := rfl
  unfold cutV
  rw [h1, h2, List.take_of_length_le (by rw [List.length_drop]; omega)]
theorem cut_ini (xs : List V) {k : Nat} (hk : 1 ≤ k) : cutV xs none (some (-(k : Int))) = xs.take (xs.length - k) := by
  have h1 : HT.sIx xs.length xs.length (some (-(k : Int))) = xs.length - k := by
    show (if -(k : Int) < 0 then (-(k : Int) + (xs.length : Int)).toNat else _) = _
    rw [if_pos (by omega)]
    omega
  have h2 : HT.sIx xs.length 0 none = 0 := rfl
  unfold cutV
  rw [h1, h2, List.drop_zero, Nat.sub_zero]
theorem cut_ini1 (xs : List V) : cutV xs none (some (-1)) = xs.take (xs.length - 1) := cut_ini xs (Nat.le_refl 1)
theorem cut_bk1 (xs : List V) : cutV xs (some (-1)) none = xs.drop (xs.length - 1) := cut_bk xs (Nat.le_refl 1)
theorem cut_bk4 (xs : List V) : cutV xs (some (-4)) none = xs.drop (xs.length - 4) := cut_bk xs (k := 4) (by decide)
theorem q_slE {tu : Bool} {a : Addr} {xs : List V} {lo hi : Option Int} (h : SqE tu K H a xs) (q : ∀ p H', Same H H' → SqE tu K H' p (cutV xs lo hi) → Q (.ref p) H') : rSlE K (.ref a) lo hi H Q := ⟨tu, a, xs, rfl, h, q⟩
theorem q_slT {a : Addr} {xs : List V} {n : Nat} (h : H a = some (.tup xs)) (hn : n < xs.length) (q : ∀ p, H p = none → Q (.ref p) (upd H p (.tup (xs.take n)))) : rSlT K (.ref a) none (some (n : Int)) H Q := by
  have h1 : HT.sIx xs.length xs.length (some (n : Int)) = n := by rw [HT.sIx_nat]; omega
  refine ⟨a, xs, rfl, SqT.of h, fun z => ?_, ?_⟩
  · rw [h1] at z; omega
  · have e : cutV xs none (some (n : Int)) = xs.take n := by
      unfold cutV
      rw [h1, show HT.sIx xs.length 0 none = 0 from rfl, List.drop_zero, Nat.sub_zero]
    rw [e]; exact q
theorem q_ext {l b : Addr} {xs zs : List V} (h : H l = some (.lst xs)) (h2 : H b = some (.lst zs)) (hz : xs.length + zs.length ≤ 100000) (q : Q .non (upd H l (.lst (xs ++ zs)))) : rExtend (.ref l) [.ref b] H Q := ⟨l, b, xs, zs, rfl, rfl, h, h2, by rw [sizeLine_eq]; omega, q⟩
end
theorem take_at {α : Type} {xs : List α} {i : Nat} {x : α} (h : xs[i]? = some x) : xs.take (i + 1) = xs.take i ++ [x] := by rw [List.take_add_one, h]; rfl
theorem pi_listK {X : Cx} {K : PySem.W.Frag} {tg l : Expr} {tl : TE} (h : X.K = K) (hl : PE X l tl) : PI X tg l (iList K tl) := by subst h; exact pi_list hl
theorem sl_tupK {X : Cx} {K : PySem.W.Frag} (h : X.K = K) : SlR X (rSlT K) := by subst h; exact sl_tup
end HP
namespace HP
open PySem PySem.Spec PyProof.Rows L2
theorem Li.is {α : Type} {K : PySem.W.Frag} {R : Hp → V → α → Prop} {H : Hp} {a : Addr} {xs : List α} (h : Li K false R H a xs) : ∃ l, H a = some (.lst l) := let ⟨w, z, _⟩ := h; ⟨w, z⟩
theorem plc_sm {B : Int} (hB : 0 < B) (bB : Bt 8 B) {p : PtO} (h : Nr p) : SmQ (plc B p) :=
  ⟨BQ.of ((bt_sm (n := 17) h.1 (by decide)).mono (by decide)) (bB.mono (by decide)) (by omega), BQ.of ((bt_sm (n := 17) h.2 (by decide)).mono (by decide)) (bB.mono (by decide)) (by omega)⟩
theorem pl_ro {B : Int} (hB : 0 < B) {H : Hp} {v : V} {p : PtO} {b : Bool} (h : PL B H v p) : QP H v (pq B (2 * p.1, 2 * p.2.1, b)) := by
  obtain ⟨t, u, w, e, h1, h2, h3⟩ := h
  exact ⟨t, u, w, e, h1, h2.is (dbl_q hB), h3.is (dbl_q hB)⟩
def NB (H : Hp) (v : V) (q : Rat) : Prop := NQ H v q ∧ BQ 600 q
instance : ImR NB := ⟨fun h s => ⟨h.1.im s, h.2⟩⟩
theorem Pz.itq {H : Hp} : ∀ {vs : List V} {qs : List Rat}, Pz (NB H) vs qs → Itq H vs qs
  | [], [], _ => .nil
  | [], _ :: _, h => by have := h.len; simp at this
  | _ :: _, [], h => by have := h.len; simp at this
  | v :: vs, q :: qs, h => by
    obtain ⟨v', e, hv⟩ := h.get 0 q rfl
    cases e
    refine .cons hv (Pz.itq ⟨by simpa using h.len, fun i x e => h.get (i + 1) x e⟩)
theorem sum3 {x y z : Rat} (h1 : BQ 200 x) (h2 : BQ 200 y) (h3 : BQ 200 z) : Sum [x, y, z] 0 where
  ex := by
    refine ⟨(x.den : Int) * y.den * z.den, Int.mul_pos (Int.mul_pos (den_pos' x) (den_pos' y)) (den_pos' z), ((h1.b.mul h2.b).mul h3.b).mono (by decide), fun q hq => ?_, Int.one_dvd _⟩
    simp only [List.mem_cons, List.not_mem_nil, or_false] at hq
    rcases hq with e | e | e <;> subst e
    · exact ⟨h1.mono (by decide), Int.dvd_trans ⟨y.den, rfl⟩ ⟨z.den, rfl⟩⟩
    · exact ⟨h2.mono (by decide), Int.dvd_trans ⟨x.den, Int.mul_comm _ _⟩ ⟨z.den, rfl⟩⟩
    · exact ⟨h3.mono (by decide), ⟨(x.den : Int) * y.den, Int.mul_comm _ _⟩⟩
  a := ⟨⟨by decide +kernel⟩, ⟨by decide +kernel⟩⟩
  n := by simp
section
variable {K : PySem.W.Frag} {H H' : Hp} {a c bx D r : Addr} {n : Int}
theorem po_ref {v : V} {p : PtO} (h : PO H v p) : ∃ t, v = .ref t := let ⟨t, e, _⟩ := h; ⟨t, e⟩
theorem Li.nb {xs : List PtO} (h : Li K false PO H c xs) (h0 : 1 ≤ xs.length) (B : Box4 H bx n) : c ≠ bx := by
  obtain ⟨vs, h1, h2⟩ := h
  obtain ⟨v, e, hv⟩ := h2.at_ (i := 0) (by omega)
  obtain ⟨t, rfl⟩ := po_ref hv
  exact B.neL h1 e
theorem Rw.go {rs : List (List PtO)} (h : Rw K PO H a rs) (h0 : ∀ ps ∈ rs, 1 ≤ ps.length) (na : a ≠ bx) (B : Box4 H bx n) (g : Go bx H H') : Rw K PO H' a rs := by
  obtain ⟨cs, h1, h2, h3, h4, h5⟩ := h.ex
  exact ⟨cs, g _ _ h1 na, h2, h3, h4, fun i xs e => let ⟨c, e1, e2⟩ := h5 i xs e; ⟨c, e1, e2.go (e2.nb (h0 xs (List.mem_of_getElem? e)) B) B g⟩⟩
theorem Rw.pushG {rs : List (List PtO)} {xs : List PtO} (h : Rw K PO H D rs) (h0 : ∀ ps ∈ rs, 1 ≤ ps.length) (nD : D ≠ bx) (B : Box4 H bx n) (g : Go bx H H') (nr : H r = none) (L : Li K false PO H' r xs) :
    ∃ acc : List V, H' D = some (.lst acc) ∧ acc.length = rs.length ∧ Rw K PO (upd H' D (.lst (acc ++ [.ref r]))) D (rs ++ [xs]) := by
  obtain ⟨cs, h1, h2, h3, h4, h5⟩ := h.ex
  have hD := g _ _ h1 nD
  have rD : r ≠ D := fun z => by rw [z, h1] at nr; cases nr
  have live : ∀ c ∈ cs, c ≠ r := by
    rintro c hc rfl
    obtain ⟨i, hi, rfl⟩ := List.getElem_of_mem hc
    obtain ⟨c', e1, vs, e2, _⟩ := h5 i _ (List.getElem?_eq_getElem (h2 ▸ hi))
    rw [List.getElem?_eq_getElem hi] at e1
    cases e1
    rw [show H cs[i] = some (.lst vs) from e2] at nr
    cases nr
  refine ⟨_, hD, by rw [List.length_map, h2], cs ++ [r], by rw [List.map_append]; exact upd_same, by simp [h2], ?_, ?_, fun i ys e => ?_⟩
  · refine List.nodup_append.mpr ⟨h3, by simp, fun c hc b hb => ?_⟩
    rw [List.mem_singleton.mp hb]
    exact live c hc
  · intro z
    rcases List.mem_append.mp z with z | z
    · exact h4 z
    · exact rD (List.mem_singleton.mp z).symm
  · rw [List.getElem?_append] at e ⊢
    split at e
    · rename_i hi
      rw [if_pos (by omega)]
      obtain ⟨c, e1, e2⟩ := h5 i ys e
      have e3 := e2.go (e2.nb (h0 ys (List.mem_of_getElem? e)) B) B g
      exact ⟨c, e1, e3.other (fun z => h4 (z ▸ List.mem_of_getElem? e1)) hD⟩
    · rename_i hi
      rw [if_neg (by omega), h2]
      cases q : i - rs.length with
      | zero => rw [q] at e; cases e; exact ⟨r, rfl, L.other rD hD⟩
      | succ n => rw [q] at e; simp at e
end
theorem q_ixTz {K : PySem.W.Frag} {H : Hp} {Q : VK} {p : Addr} {xs : List V} {j : Nat} {v : V} (h : H p = some (.tup xs)) (e : xs[j]? = some v) (q : Q v H) : rIxT K (.ref p) (.int (0 + (j : Int))) H Q := by
  rw [Int.zero_add]
  exact q_ixT (SqT.of h) e q
/-! what is shown -/
theorem Pz.dpAll {α : Type} {K : PySem.W.Frag} {H : Hp} {R : V → α → Prop} {vs : List V} {xs : List α} (h : Pz R vs xs) (d : α → PyData) (k : ∀ v x, R v x → Dp K H v (d x)) : DpAll K H vs (xs.map d) := by
  refine dpAll_of (by rw [List.length_map, h.len]) fun i e he => ?_
  rw [List.getElem?_map] at he
  obtain ⟨x, hx, rfl⟩ := Option.map_eq_some_iff.mp he
  obtain ⟨v, e1, e2⟩ := h.get i x hx
  exact ⟨v, e1, k v x e2⟩
def dq (tu : Bool) (ds : List PyData) : PyData := if tu = true then .tuple ds else .list ds
theorem Li.dp {α : Type} {K : PySem.W.Frag} {tu : Bool} {H : Hp} {R : Hp → V → α → Prop} {a : Addr} {xs : List α} (h : Li K tu R H a xs) (d : α → PyData) (k : ∀ v x, R H v x → Dp K H v (d x)) : Dp K H (.ref a) (dq tu (xs.map d)) := by
  obtain ⟨vs, h1, h2⟩ := h
  cases tu
  · exact .lst (SqL.of h1) (h2.dpAll d k)
  · exact .tup (SqT.of h1) (h2.dpAll d k)
theorem gd_dq {tu : Bool} {k m : Nat} {ds : List PyData} (h : ∀ d ∈ ds, GD d k m) : GD (dq tu ds) (k + 1) ((m + 1) * ds.length) := by
  cases tu
  · exact gd_list h
  · exact gd_tuple h
theorem QP.pl {K : PySem.W.Frag} {H : Hp} {v : V} {q : PtQ} (h : QP H v q) : Pl K H v q.1 q.2 := by
  obtain ⟨t, u, w, e, h1, h2, h3⟩ := h
  exact ⟨t, u, w, e, SqT.of h1, h2, h3⟩
def dQ (q : PtQ) : PyData := dP q.1 q.2
theorem QP.dp {K : PySem.W.Frag} {H : Hp} {v : V} {q : PtQ} (h : QP H v q) : Dp K H v (dQ q) := h.pl.dp
def dPs (qss : List (List PtQ)) : PyData := .list (qss.map fun qs => .list (qs.map dQ))
theorem Rw.dp {K : PySem.W.Frag} {H : Hp} {a : Addr} {qss : List (List PtQ)} (h : Rw K QP H a qss) : Dp K H (.ref a) (dPs qss) := by
  obtain ⟨cs, h1, h2, _, _, h5⟩ := h.ex
  refine .lst (SqL.of h1) (dpAll_of (by simp [h2]) fun i d e => ?_)
  rw [List.getElem?_map] at e
  obtain ⟨qs, hq, rfl⟩ := Option.map_eq_some_iff.mp e
  obtain ⟨c, e1, e2⟩ := h5 i qs hq
  exact ⟨.ref c, by rw [List.getElem?_map, e1]; rfl, e2.dp dQ fun _ _ z => z.dp⟩
theorem gd_dQ {q : PtQ} (h : SmQ q) : GD (dQ q) 3 6 := gd_pl (h.1.mono (by decide)) (h.2.mono (by decide))
theorem gd_dPs {qss : List (List PtQ)} (hl : qss.length ≤ 4) (h : ∀ qs ∈ qss, qs.length ≤ 72 ∧ ∀ q ∈ qs, SmQ q) : GD (dPs qss) 5 2100 := by
  refine (gd_list (k := 4) (m := 504) ?_).mono (by decide) (by rw [List.length_map]; omega)
  intro d hd
  obtain ⟨qs, hq, rfl⟩ := List.mem_map.mp hd
  obtain ⟨h1, h2⟩ := h qs hq
  refine (gd_list (k := 3) (m := 6) ?_).mono (by decide) (by rw [List.length_map]; omega)
  intro d hd
  obtain ⟨q, hq, rfl⟩ := List.mem_map.mp hd
  exact gd_dQ (h2 q hq)
theorem okP_pol {B c : Int} (hB : 0 < B) (bB : Bt 8 B) (hc1 : 1 ≤ c) (hc4 : c ≤ 4) {rs : List (List PtO)} (ok : OkO rs) : ∀ qs ∈ rs.map (polO B c), qs.length ≤ 72 ∧ ∀ q ∈ qs, SmQ q := fun qs hq => by
  obtain ⟨ps, hp, rfl⟩ := List.mem_map.mp hq
  obtain ⟨_, o2, o3⟩ := ok.all ps hp
  exact ⟨polO_len hc4 o2, polT_sm hB bB hc1 hc4 (ringO_sm o3) _⟩
/-- the three lists that are handed in -/
def dHd (t1 t2 t3 : Bool) (B : Int) (rs : List (List PtO)) : PyData := .list [dq t1 (rs.flatten.map fun p => dQ (plc B p)), dq t2 ((endsO rs).map PyData.int), dq t3 (rs.flatten.map fun p => PyData.bool p.2.2)]
theorem dp_hd {K : PySem.W.Frag} {t1 t2 t3 : Bool} {B : Int} {H : Hp} {D a e b : Addr} {rs : List (List PtO)} (h : H D = some (.lst [.ref a, .ref e, .ref b])) (h1 : Li K t1 (PL B) H a rs.flatten) (h2 : Li K t2 IR H e (endsO rs)) (h3 : Li K t3 TR H b rs.flatten) : Dp K H (.ref D) (dHd t1 t2 t3 B rs) :=
  .lst (SqL.of h) (.cons (h1.dp (fun p => dQ (plc B p)) fun _ _ z => QP.dp z) (.cons (h2.dp PyData.int fun v i z => (show v = .int i from z) ▸ .int i) (.cons (h3.dp (fun p => PyData.bool p.2.2) fun v p z => (show v = .bl p.2.2 from z) ▸ .bl p.2.2) .nil)))
theorem gd_hd {t1 t2 t3 : Bool} {B : Int} (hB : 0 < B) (bB : Bt 8 B) {rs : List (List PtO)} (ok : OkO rs) : GD (dHd t1 t2 t3 B rs) 5 1200 := by
  have fl := flat_len (rs := rs) (fun ps h => (ok.all ps h).2.1)
  have l1 := ok.l1
  have fm : ∀ p ∈ rs.flatten, Nr p := fun p hp => by
    obtain ⟨ps, h1, h2⟩ := List.mem_flatten.mp hp
    exact (ok.all ps h1).2.2 p h2
  have el : ∀ i ∈ endsO rs, Bt 1900 i := fun i hi => by
    unfold endsO at hi
    obtain ⟨k, hk, rfl⟩ := List.mem_map.mp hi
    have := begO_le rs (k + 1) (List.mem_range.mp hk)
    exact (Bt.small (by omega) (by omega)).mono (by decide)
  refine (gd_list (k := 4) (m := 390) ?_).mono (by decide) (by simp)
  intro d hd
  simp only [List.mem_cons, List.not_mem_nil, or_false] at hd
  rcases hd with e | e | e <;> subst e
  · refine (gd_dq (k := 3) (m := 6) fun d hd => ?_).mono (by decide) (by rw [List.length_map]; omega)
    obtain ⟨p, hp, rfl⟩ := List.mem_map.mp hd
    exact gd_dQ (plc_sm hB bB (fm p hp))
  · refine (gd_dq (k := 1) (m := 0) fun d hd => ?_).mono (by decide) (by rw [List.length_map, endsO_len]; omega)
    obtain ⟨i, hi, rfl⟩ := List.mem_map.mp hd
    exact gd_int (el i hi)
  · refine (gd_dq (k := 1) (m := 0) fun d hd => ?_).mono (by decide) (by rw [List.length_map]; omega)
    obtain ⟨p, hp, rfl⟩ := List.mem_map.mp hd
    exact gd_bl
theorem Rw.drop1 {K : PySem.W.Frag} {H H' : Hp} {a c0 : Addr} {cs : List Addr} {qss : List (List PtQ)} {d : Addr} (h : H a = some (.lst ((c0 :: cs).map V.ref))) (hr : ∀ (i : Nat) (qs : List PtQ), qss[i]? = some qs → ∃ c, (c0 :: cs)[i]? = some c ∧ Li K false QP H' c qs) (hl : (c0 :: cs).length = qss.length) (hd : H' d = some (.lst (cs.map V.ref))) : Dp K H' (.ref d) (dPs (qss.drop 1)) := by
  refine .lst (SqL.of hd) (dpAll_of (by rw [List.length_map, List.length_map, List.length_drop, ← hl]; simp) fun i e he => ?_)
  rw [List.getElem?_map] at he
  obtain ⟨qs, hq, rfl⟩ := Option.map_eq_some_iff.mp he
  rw [List.getElem?_drop, Nat.add_comm] at hq
  obtain ⟨c, e1, e2⟩ := hr (i + 1) qs hq
  exact ⟨.ref c, by rw [List.getElem?_map, show cs[i]? = some c from e1]; rfl, e2.dp dQ fun _ _ z => z.dp⟩
section
variable {K : PySem.W.Frag} {bx E : Addr} {vals : List (List V)} {H H' : Hp} {as : List (Addr × Bool)}
structure HdI (K : PySem.W.Frag) (bx E : Addr) (vals : List (List V)) (H : Hp) (as : List (Addr × Bool)) : Prop where
  e : H E = some (.lst (as.map fun z => V.ref z.1))
  z : ∀ (i : Nat) (z : Addr × Bool) (ws : List V), as[i]? = some z → vals[i]? = some ws → z.1 ≠ bx ∧ z.1 ≠ E ∧ SqE z.2 K H z.1 ws
theorem sqE_go {tu : Bool} {a : Addr} {ws : List V} (h : SqE tu K H a ws) (n : a ≠ bx) (g : Go bx H H') : SqE tu K H' a ws := by
  cases tu
  · exact g _ _ h n
  · exact g _ _ h n
theorem HdI.go (h : HdI K bx E vals H as) (nE : E ≠ bx) (g : Go bx H H') : HdI K bx E vals H' as :=
  ⟨g _ _ h.e nE, fun i z ws e1 e2 => let ⟨n1, n2, q⟩ := h.z i z ws e1 e2; ⟨n1, n2, sqE_go q n1 g⟩⟩
theorem HdI.snoc (h : HdI K bx E vals H as) {l : Addr} {tu : Bool} {ws : List V} (nb : l ≠ bx) (nE : l ≠ E) (q : SqE tu K H l ws) (hv : vals[as.length]? = some ws) : HdI K bx E vals (upd H E (.lst (as.map (fun z => V.ref z.1) ++ [.ref l]))) (as ++ [(l, tu)]) := by
  have mv : ∀ {a : Addr} {tu : Bool} {ws : List V}, a ≠ E → SqE tu K H a ws → SqE tu K (upd H E (.lst (as.map (fun z => V.ref z.1) ++ [.ref l]))) a ws := fun {a tu ws} n q => by
    cases tu
    · show upd H E _ a = _
      rw [upd_ne n]; exact q
    · show upd H E _ a = _
      rw [upd_ne n]; exact q
  refine ⟨by rw [List.map_append]; exact upd_same, fun i z ws' e1 e2 => ?_⟩
  rw [List.getElem?_append] at e1
  split at e1
  · obtain ⟨n1, n2, q'⟩ := h.z i z ws' e1 e2
    exact ⟨n1, n2, mv n2 q'⟩
  · rename_i hi
    cases k : i - as.length with
    | zero =>
      rw [k] at e1
      cases e1
      have : i = as.length := by omega
      rw [this, hv] at e2
      cases e2
      exact ⟨nb, nE, mv nE q⟩
    | succ m => rw [k] at e1; simp at e1
/-- what stands when all is handed in -/
structure Rdy (K : PySem.W.Frag) (bx : Addr) (B : Int) (rs : List (List PtO)) (a E z1 z2 z3 : Addr) (t1 t2 t3 : Bool) (H : Hp) : Prop where
  rw_ : Rw K PO H a rs
  na : a ≠ bx
  he : H E = some (.lst [.ref z1, .ref z2, .ref z3])
  nE : E ≠ bx
  l1 : Li K t1 (PL B) H z1 rs.flatten
  l2 : Li K t2 IR H z2 (endsO rs)
  l3 : Li K t3 TR H z3 rs.flatten
  n1 : z1 ≠ bx
  n2 : z2 ≠ bx
  n3 : z3 ≠ bx
variable {B : Int} {rs : List (List PtO)} {a z1 z2 z3 : Addr} {t1 t2 t3 : Bool}
theorem Rdy.same (h : Rdy K bx B rs a E z1 z2 z3 t1 t2 t3 H) (s : Same H H') : Rdy K bx B rs a E z1 z2 z3 t1 t2 t3 H' :=
  ⟨h.rw_.same s, h.na, s _ _ h.he, h.nE, h.l1.same s, h.l2.same s, h.l3.same s, h.n1, h.n2, h.n3⟩
theorem Rdy.go {n : Int} (h : Rdy K bx B rs a E z1 z2 z3 t1 t2 t3 H) (e0 : ∀ ps ∈ rs, 1 ≤ ps.length) (X : Box4 H bx n) (g : Go bx H H') : Rdy K bx B rs a E z1 z2 z3 t1 t2 t3 H' :=
  ⟨h.rw_.go e0 h.na X g, h.na, g _ _ h.he h.nE, h.nE, h.l1.go h.n1 X g, h.l2.go h.n2 X g, h.l3.go h.n3 X g, h.n1, h.n2, h.n3⟩
theorem Rw.nb {n : Int} (h : Rw K PO H a rs) (l0 : 1 ≤ rs.length) (X : Box4 H bx n) : a ≠ bx := by
  obtain ⟨cs, h1, h2, _⟩ := h.ex
  refine X.neL h1 (c := cs[0]'(by omega)) ?_
  rw [List.getElem?_map, List.getElem?_eq_getElem (by omega)]
  rfl
end
theorem refs_inj : ∀ {as bs : List Addr}, as.map V.ref = bs.map V.ref → as = bs
  | [], [], _ => rfl
  | [], _ :: _, h => by cases h
  | _ :: _, [], h => by cases h
  | a :: as, b :: bs, h => by
    rw [List.map_cons, List.map_cons, List.cons.injEq] at h
    rw [refs_inj h.2, V.ref.inj h.1]
theorem dbl_yy {p r : PtO} (h : (!p.2.2) = true) (k : (!r.2.2) = true) : dbl p r = [(2 * p.1, 2 * p.2.1, p.2.2)] ++ [(p.1 + r.1, p.2.1 + r.2.1, true)] := by unfold dbl; rw [if_pos h, if_pos k]; rfl
theorem dbl_yn {p r : PtO} (h : (!p.2.2) = true) (k : (!r.2.2) = false) : dbl p r = [(2 * p.1, 2 * p.2.1, p.2.2)] := by unfold dbl; rw [if_pos h, if_neg (by rw [k]; simp)]
theorem dbl_n {p r : PtO} (h : (!p.2.2) = false) : dbl p r = [(2 * p.1, 2 * p.2.1, p.2.2)] := by unfold dbl; rw [if_neg (by rw [h]; simp)]
theorem mod_at {i n : Nat} (h : 0 < n) : ((i : Int) + 1).fmod (n : Int) = (((i + 1) % n : Nat) : Int) := by
  rw [Int.fmod_eq_emod_of_nonneg _ (by omega), Int.natCast_emod, Int.natCast_add]
  rfl
end HP
namespace HP
open PySem PySem.Spec PyProof.Rows L2 HT
/-! ### a pair from behind; the least common multiple -/
section
variable {prog : Program} {w : World} {A : Around} {E : Value → Shared → Prop} {s : Shared}
theorem pair_back {t sl : Addr} {u v vl vu vs : Value} {Q : Value → Shared → Prop} (ht : IsTup s.heap t #[u, v]) (hs : s.heap.IsSliceOf sl vl vu vs) (pl : IsPart vl none) (pu : IsPart vu none) (ps : IsPart vs (some (-1)))
    (h : Q (.ref s.heap.objs.size) { s with heap := s.heap.push { cls := .type "tuple", data := .seq #[v, u] } }) : wpAny (model prog w) A (getItem (.ref t) (.ref sl)) Q E s := by
  obtain ⟨os, hos, hcs, hds⟩ := id hs
  have ty : s.TypeIs (.ref sl) "slice" := ⟨os, hos, hcs⟩
  have sz : sizeOk (.seq #[v, u]) := by show (2 : Nat) ≤ sizeLine; decide
  unfold getItem
  try with_reducible refine wpAny_holding ?_
  first | refine wpAny_bind (wpAny_pure ?_) | skip
  refine wpAny_bind (wpAny_sequenceKey ht.typeIs (by decide) (wpAny_bind (wpAny_callSpecial?_slot (name := Str.ofString "__getitem__") ht.typeIs slot_tuple_getitem (wpAny_call_entry slot_tuple_getitem ht.typeIs entry_tuple_getitem ?_ (args_tuple_getitem _ _)))))
  show wpAny _ _ (Builtin.Tuple.tupleItemsOf (.ref t) >>= _) _ _ s
  refine wpAny_bind (tupleItemsOf_ ht (wpAny_bind (wpAny_typeOf ty ?_)))
  rw [if_pos (by decide)]
  have ap : ∀ {R : Int × Int × Nat → Shared → Prop}, R (1, -1, 2) s → wpAny (model prog w) A.in1 (Builtin.Slice.sliceApplied (.ref sl) (pure ((#[u, v] : Array Value).size : Int))) R E s := fun {R} r => by
    unfold Builtin.Slice.sliceApplied Builtin.Slice.sliceFields
    refine wpAny_bind (wpAny_bind (wpAny_field hos hds (x := vl) rfl (wpAny_bind (wpAny_field hos hds (x := vu) rfl (wpAny_bind (wpAny_field hos hds (x := vs) rfl (wpAny_pure ?_)))))))
    refine wpAny_bind (slicePart_ ps ?_)
    show wpAny _ _ (if ((-1 : Int) == 0) = true then _ else _) _ _ s
    rw [if_neg (by decide)]
    have e : ((Builtin.Slice.sliceAdjust none none (-1) 2).1, (-1 : Int), Builtin.Slice.slicePlaces (Builtin.Slice.sliceAdjust none none (-1) 2).1 (Builtin.Slice.sliceAdjust none none (-1) 2).2 (-1)) = (1, -1, 2) := by decide
    rw [← e] at r
    exact wpAny_bind (slicePart_ pl (wpAny_bind (slicePart_ pu (wpAny_bind (wpAny_pure (wpAny_pure r))))))
  refine wpAny_bind (ap ?_)
  show wpAny _ _ (if ((1 : Int) == 0 && (-1 : Int) == 1 && (2 : Nat) == (#[u, v] : Array Value).size) = true then _ else _) _ _ s
  rw [if_neg (show ¬ (((1 : Int) == 0 && (-1 : Int) == 1 && (2 : Nat) == (#[u, v] : Array Value).size) = true) from fun z => Bool.false_ne_true z)]
  have e : ((List.range 2).filterMap fun (k : Nat) => (#[u, v] : Array Value)[((1 : Int) + (k : Int) * (-1)).toNat]?).toArray = #[v, u] := rfl
  rw [e]
  first
    | exact wpAny_bind (m := Builtin.Tuple.tupleExact _) (wpAny_newObj_type (wpAny_pure ⟨_, rfl, (wpAny_pure h)⟩) sz)
    | exact wpAny_bind (m := Builtin.Tuple.tupleExact _) (wpAny_newObj_type (wpAny_bind (wpAny_pure (wpAny_pure ⟨_, rfl, (wpAny_pure h)⟩))) sz)
    | exact wpAny_bind (wpAny_bind (m := Builtin.Tuple.tupleExact _) (wpAny_newObj_type (wpAny_pure (wpAny_pure ⟨_, rfl, (wpAny_pure h)⟩)) sz))
    | exact wpAny_bind (wpAny_bind (m := Builtin.Tuple.tupleExact _) (wpAny_newObj_type (wpAny_pure ⟨_, rfl, (wpAny_pure h)⟩) sz))
end
def tRevP (K : PySem.W.Frag) (te : TE) : TE := fun σ H Q => te σ H fun x H1 => ∃ a u v, x = .ref a ∧ H1 a = some (.tup [u, v]) ∧ ∀ p, H1 p = none → Q (.ref p) (upd H1 p (.tup [v, u]))
theorem pe_revP {X : Cx} {e : Expr} {te : TE} {k : Nat} {p1 p2 p3 pos : Pos} (he : PE X e te) : PE X (.Subscript e (.Slice none none (some (.UnaryOp .USub (.Constant (.int 1) k p1) p2)) p3) pos) (tRevP X.K te) := by
  constructor
  intro pins s σ H Q I h
  refine Subscript_ (thn (he.run pins s σ H _ I h) fun w1 s1 ⟨x, H1, I1, r1, a, u, v, ex, hx, q⟩ => ?_)
  subst ex
  cases r1
  have st : L2.PO X (some (.UnaryOp .USub (.Constant (.int 1) k p1) p2)) (tPart (tUn (rU fun i => .int (-i)) (tC (.int 1)))) := po_some (pe_un un_neg pe_int)
  refine wpAny_Slice (thn (po_none.run pins s1 σ H1 (fun o J => o = none ∧ J = H1) I1 ⟨rfl, rfl⟩) fun vl s2 ⟨l, H2, I2, pl, el, e2⟩ => ?_)
  subst el e2
  refine thn (po_none.run pins s2 σ H2 (fun o J => o = none ∧ J = H2) I2 ⟨rfl, rfl⟩) fun vu s3 ⟨u', H3, I3, pu, eu, e3⟩ => ?_
  subst eu e3
  refine thn (st.run pins s3 σ H3 (fun o J => o = some (-1) ∧ J = H3) I3 ⟨1, rfl, -1, rfl, rfl, rfl⟩) fun vs s4 ⟨o, H4, I4, ps, eo, e4⟩ => ?_
  subst eo e4
  have I5 : Inv X pins σ H4 { s4 with heap := s4.heap.push { cls := .type "slice", data := .fields #[vl, vu, vs] } } := I4.kept (t' := s4.toks) fun b ob z => Heap.get?_push_of_some _ z
  obtain ⟨its, r, ht, _⟩ := I5.tuple (SqT.of hx)
  cases r with
  | cons ru r2 =>
  cases r2 with
  | cons rv r3 =>
  cases r3
  have ht' : IsTup (s4.heap.push { cls := .type "slice", data := .fields #[vl, vu, vs] }) a #[_, _] := ht
  show wpAny (model X.prog X.w) X.A (subscriptTail e (.Slice none none (some (.UnaryOp .USub (.Constant (.int 1) k p1) p2)) p3) (.ref a) (.ref s4.heap.objs.size)) (EP X pins σ Q) X.xe { s4 with heap := s4.heap.push { cls := .type "slice", data := .fields #[vl, vu, vs] } }
  refine tail_any (ops := [.ref a, .ref s4.heap.objs.size]) ht'.typeIs (slot_tuple_getitem.lookup) ?_ (by with_unfolding_all rfl)
  refine pair_back ht' (Heap.IsSliceOf.new _ vl vu vs) pl pu ps ?_
  exact ⟨.ref _, _, I5.laid (t' := s4.toks) (o := .tup [v, u]) (fun b ob z => Heap.get?_push_of_some _ z) (Nat.le_refl _) ⟨Nat.le_of_ble_eq_true rfl, _, .cons rv (.cons ru .nil), _, Heap.get?_push_size _ rfl, rfl, _, rfl⟩, rfl, q _ (I5.hok.fresh (Nat.le_refl _))⟩
theorem q_revP {K : PySem.W.Frag} {te : TE} {σ : L2.St} {H : Hp} {Q : VK} (q : te σ H fun x H1 => ∃ a u v, x = .ref a ∧ H1 a = some (.tup [u, v]) ∧ ∀ p, H1 p = none → Q (.ref p) (upd H1 p (.tup [v, u]))) : tRevP K te σ H Q := q
/-- lcm of two -/
def rLcm : List V → Hp → VK → Prop := fun vs H Q => ∃ a b : Int, vs = [.int a, .int b] ∧ a.natAbs < 2 ^ 64 ∧ b.natAbs < 2 ^ 64 ∧ Q (.int ((Nat.lcm a.natAbs b.natAbs : Nat) : Int)) H
theorem cr_lcm {X : Cx} : CallR X (.builtin "math.lcm") rLcm := by
  intro pins s σ H vs us Q I r h
  obtain ⟨a, b, rfl, ha, hb, q⟩ := h
  obtain ⟨t, u, rfl⟩ := Vals.int2 r
  have e1 : Nat.lcm 1 a.natAbs = a.natAbs := by simp [Nat.lcm]
  have le : Nat.lcm a.natAbs b.natAbs < 2 ^ 128 := by
    have h1 : Nat.lcm a.natAbs b.natAbs ≤ a.natAbs * b.natAbs := Nat.div_le_self _ _
    have h2 : a.natAbs * b.natAbs ≤ 2 ^ 64 * 2 ^ 64 - 1 := by
      have := Nat.mul_le_mul (Nat.le_sub_one_of_lt ha) (Nat.le_sub_one_of_lt hb)
      have e : (2 ^ 64 - 1) * (2 ^ 64 - 1) ≤ 2 ^ 64 * 2 ^ 64 - 1 := by decide
      exact Nat.le_trans this e
    have e3 : 2 ^ 64 * 2 ^ 64 - 1 < 2 ^ 128 := by decide
    omega
  refine PySem.W.mg_lcm_v ha hb (c := ((Nat.lcm a.natAbs b.natAbs : Nat) : Int)) (by rw [e1]) ?_ ⟨.int _, H, I.tok _, ⟨_, rfl⟩, q⟩
  rw [Int.natAbs_natCast]
  have := PySem.Flt.log2_lt_of (show 0 < 128 by decide) le
  refine Nat.lt_of_lt_of_le this (by decide +kernel)
theorem q_lcm {H : Hp} {Q : VK} {a b : Int} (h1 : a.natAbs < 2 ^ 64) (h2 : b.natAbs < 2 ^ 64) (q : Q (.int ((Nat.lcm a.natAbs b.natAbs : Nat) : Int)) H) : rLcm [.int a, .int b] H Q := ⟨a, b, rfl, h1, h2, q⟩
end HP
namespace HP
/-! ### two stretches in the plane: what sides and boxes tell, and what the parameters tell -/
abbrev Pz2 := Int × Int
abbrev W3 := Int × Int × Int
def WH (B : Int) (P : Pz2) (w : W3) : Prop := 0 < w.2.2 ∧ w.1 * B = P.1 * w.2.2 ∧ w.2.1 * B = P.2 * w.2.2
def lineW (a b : W3) : W3 := (a.2.1 * b.2.2 - a.2.2 * b.2.1, a.2.2 * b.1 - a.1 * b.2.2, a.1 * b.2.1 - a.2.1 * b.1)
def valW (l w : W3) : Int := l.1 * w.1 + l.2.1 * w.2.1 + l.2.2 * w.2.2
def orient (P Q R : Pz2) : Int := (Q.1 - P.1) * (R.2 - P.2) - (Q.2 - P.2) * (R.1 - P.1)
theorem sgn_of_mul {v o a b : Int} (ha : 0 < a) (hb : 0 < b) (h : v * a = b * o) : sgn v = sgn o := by
  unfold sgn
  rcases Int.lt_trichotomy o 0 with ho | ho | ho
  · have h1 := Int.mul_neg_of_pos_of_neg hb ho
    have : v < 0 := by
      rcases Int.lt_or_le v 0 with z | z
      · exact z
      · have := Int.mul_nonneg z (Int.le_of_lt ha); omega
    rw [if_pos this, if_pos ho]
  · subst ho
    have : v = 0 := by
      have h2 : v * a = 0 := by rw [h, Int.mul_zero]
      rcases Int.mul_eq_zero.mp h2 with z | z
      · exact z
      · omega
    subst this; rfl
  · have h1 := Int.mul_pos hb ho
    have : 0 < v := by
      rcases Int.lt_or_le 0 v with z | z
      · exact z
      · have := Int.mul_le_mul_of_nonneg_right z (Int.le_of_lt ha); omega
    rw [if_neg (show ¬ v < 0 by omega), if_pos this, if_neg (show ¬ o < 0 by omega), if_pos ho]
theorem side_eq {B : Int} (hB : 0 < B) {P Q R : Pz2} {u v w : W3} (h1 : WH B P u) (h2 : WH B Q v) (h3 : WH B R w) : sgn (valW (lineW u v) w) = sgn (orient P Q R) := by
  obtain ⟨p1, x1, y1⟩ := h1
  obtain ⟨p2, x2, y2⟩ := h2
  obtain ⟨p3, x3, y3⟩ := h3
  refine sgn_of_mul (a := B * B) (b := u.2.2 * v.2.2 * w.2.2) (Int.mul_pos hB hB) (Int.mul_pos (Int.mul_pos p1 p2) p3) ?_
  unfold valW lineW orient
  obtain ⟨a1, a2, a3⟩ := u
  obtain ⟨b1, b2, b3⟩ := v
  obtain ⟨c1, c2, c3⟩ := w
  simp only at *
  grind
/-- the sides of both ends, told by signs -/
theorem sgn_cases (x : Int) : (x < 0 ∧ sgn x = -1) ∨ (x = 0 ∧ sgn x = 0) ∨ (0 < x ∧ sgn x = 1) := by
  unfold sgn
  rcases Int.lt_trichotomy x 0 with h | h | h
  · exact .inl ⟨h, if_pos h⟩
  · exact .inr (.inl ⟨h, by rw [if_neg (by omega), if_neg (by omega)]⟩)
  · exact .inr (.inr ⟨h, by rw [if_neg (by omega), if_pos h]⟩)
def meetI (a b c d : Int) : Bool := decide (min c d ≤ max a b) && decide (min a b ≤ max c d)
def touchP (P Q R S : Pz2) : Bool :=
  if 0 < sgn (orient P Q R) * sgn (orient P Q S) then false
  else if sgn (orient P Q R) = 0 ∧ sgn (orient P Q S) = 0 then meetI P.1 Q.1 R.1 S.1 && meetI P.2 Q.2 R.2 S.2
  else decide (sgn (orient R S P) * sgn (orient R S Q) ≤ 0)
/-- the law's own -/
def crs (a b : Pz2) : Int := a.1 * b.2 - a.2 * b.1
def sub2 (a b : Pz2) : Pz2 := (a.1 - b.1, a.2 - b.2)
def dot2 (a b : Pz2) : Int := a.1 * b.1 + a.2 * b.2
def sharedL (P d R e : Pz2) : Bool :=
  if crs d e = 0 then (if crs d (sub2 R P) ≠ 0 then false else decide (min (dot2 (sub2 R P) d) (dot2 (sub2 (R.1 + e.1, R.2 + e.2) P) d) ≤ dot2 d d) && decide (0 ≤ max (dot2 (sub2 R P) d) (dot2 (sub2 (R.1 + e.1, R.2 + e.2) P) d)))
  else if crs d e < 0 then decide (0 ≤ -crs (sub2 R P) e) && decide (-crs (sub2 R P) e ≤ -crs d e) && (decide (0 ≤ -crs (sub2 R P) d) && decide (-crs (sub2 R P) d ≤ -crs d e))
  else decide (0 ≤ crs (sub2 R P) e) && decide (crs (sub2 R P) e ≤ crs d e) && (decide (0 ≤ crs (sub2 R P) d) && decide (crs (sub2 R P) d ≤ crs d e))
theorem or1 (P Q R S : Pz2) : orient P Q R = -crs (sub2 R P) (sub2 Q P) := by unfold orient crs sub2; grind
theorem or2 (P Q R S : Pz2) : orient P Q S = crs (sub2 Q P) (sub2 S R) - crs (sub2 R P) (sub2 Q P) := by unfold orient crs sub2; grind
theorem or3 (P Q R S : Pz2) : orient R S P = crs (sub2 R P) (sub2 S R) := by unfold orient crs sub2; grind
theorem or4 (P Q R S : Pz2) : orient R S Q = crs (sub2 R P) (sub2 S R) - crs (sub2 Q P) (sub2 S R) := by unfold orient crs sub2; grind
theorem touch_cross {P Q R S : Pz2} (hT : crs (sub2 Q P) (sub2 S R) ≠ 0) : touchP P Q R S = sharedL P (sub2 Q P) R (sub2 S R) := by
  unfold touchP sharedL
  rw [or1 P Q R S, or2 P Q R S, or3 P Q R S, or4 P Q R S]
  generalize crs (sub2 Q P) (sub2 S R) = T at hT ⊢
  generalize crs (sub2 R P) (sub2 S R) = h
  generalize crs (sub2 R P) (sub2 Q P) = t
  rw [if_neg hT]
  rcases sgn_cases (-t) with ⟨a1, a2⟩ | ⟨a1, a2⟩ | ⟨a1, a2⟩ <;> rcases sgn_cases (T - t) with ⟨b1, b2⟩ | ⟨b1, b2⟩ | ⟨b1, b2⟩ <;> rcases sgn_cases h with ⟨c1, c2⟩ | ⟨c1, c2⟩ | ⟨c1, c2⟩ <;> rcases sgn_cases (h - T) with ⟨d1, d2⟩ | ⟨d1, d2⟩ | ⟨d1, d2⟩ <;> rw [a2, b2, c2, d2] <;> by_cases z : T < 0 <;> simp [z] <;> omega
theorem ax_pos {x a n k : Int} (hn : 0 < n) (hk : 0 < k) (h : x * n = a * k) : (x ≤ k ↔ a ≤ n) ∧ (0 ≤ x ↔ 0 ≤ a) := by
  refine ⟨⟨fun z => ?_, fun z => ?_⟩, ⟨fun z => ?_, fun z => ?_⟩⟩
  · have h1 := Int.mul_le_mul_of_nonneg_right z (Int.le_of_lt hn)
    rw [h, Int.mul_comm k n] at h1
    exact Int.le_of_mul_le_mul_right h1 hk
  · have h1 := Int.mul_le_mul_of_nonneg_right z (Int.le_of_lt hk)
    rw [← h, Int.mul_comm n k] at h1
    exact Int.le_of_mul_le_mul_right h1 hn
  · have h1 := Int.mul_nonneg z (Int.le_of_lt hn)
    rw [h] at h1
    rcases Int.lt_or_le a 0 with y | y
    · have := Int.mul_neg_of_neg_of_pos y hk; omega
    · exact y
  · have h1 := Int.mul_nonneg z (Int.le_of_lt hk)
    rw [← h] at h1
    rcases Int.lt_or_le x 0 with y | y
    · have := Int.mul_neg_of_neg_of_pos y hn; omega
    · exact y
theorem ax_neg {x a n k : Int} (hn : 0 < n) (hk : k < 0) (h : x * n = a * k) : (k ≤ x ↔ a ≤ n) ∧ (x ≤ 0 ↔ 0 ≤ a) := by
  have h2 : (-x) * n = a * (-k) := by rw [Int.neg_mul, Int.mul_neg, h]
  obtain ⟨h3, h4⟩ := ax_pos hn (show 0 < -k by omega) h2
  exact ⟨⟨fun z => h3.mp (by omega), fun z => by have := h3.mpr z; omega⟩, ⟨fun z => h4.mp (by omega), fun z => by have := h4.mpr z; omega⟩⟩
/-- along one axis -/
theorem meet_ax {p k x y a b n : Int} (hn : 0 < n) (hk : k ≠ 0) (h1 : x * n = a * k) (h2 : y * n = b * k) : meetI p (p + k) (p + x) (p + y) = (decide (min a b ≤ n) && decide (0 ≤ max a b)) := by
  unfold meetI
  rcases Int.lt_or_lt_of_ne hk with h | h
  · obtain ⟨u1, u2⟩ := ax_neg hn h h1
    obtain ⟨v1, v2⟩ := ax_neg hn h h2
    rw [Bool.and_comm]
    congr 1
    · refine decide_eq_decide.mpr ⟨fun z => ?_, fun z => ?_⟩
      · by_cases q : k ≤ x
        · have := u1.mp q; omega
        · have := v1.mp (by omega); omega
      · by_cases q : a ≤ n
        · have := u1.mpr q; omega
        · have := v1.mpr (by omega); omega
    · refine decide_eq_decide.mpr ⟨fun z => ?_, fun z => ?_⟩
      · by_cases q : x ≤ 0
        · have := u2.mp q; omega
        · have := v2.mp (by omega); omega
      · by_cases q : 0 ≤ a
        · have := u2.mpr q; omega
        · have := v2.mpr (by omega); omega
  · obtain ⟨u1, u2⟩ := ax_pos hn h h1
    obtain ⟨v1, v2⟩ := ax_pos hn h h2
    congr 1
    · refine decide_eq_decide.mpr ⟨fun z => ?_, fun z => ?_⟩
      · by_cases q : x ≤ k
        · have := u1.mp q; omega
        · have := v1.mp (by omega); omega
      · by_cases q : a ≤ n
        · have := u1.mpr q; omega
        · have := v1.mpr (by omega); omega
    · refine decide_eq_decide.mpr ⟨fun z => ?_, fun z => ?_⟩
      · by_cases q : 0 ≤ x
        · have := u2.mp q; omega
        · have := v2.mp (by omega); omega
      · by_cases q : 0 ≤ a
        · have := u2.mpr q; omega
        · have := v2.mpr (by omega); omega
theorem dot_pos {d : Pz2} (h : d ≠ (0, 0)) : 0 < dot2 d d := by
  obtain ⟨x, y⟩ := d
  unfold dot2
  have h1 : 0 ≤ x * x := by rcases Int.le_total 0 x with z | z; exact Int.mul_nonneg z z; exact Int.mul_nonneg_of_nonpos_of_nonpos z z
  have h2 : 0 ≤ y * y := by rcases Int.le_total 0 y with z | z; exact Int.mul_nonneg z z; exact Int.mul_nonneg_of_nonpos_of_nonpos z z
  show 0 < x * x + y * y
  by_cases hx : x = 0
  · have hy : y ≠ 0 := fun z => h (by rw [hx, z])
    have : y * y ≠ 0 := fun z => by rcases Int.mul_eq_zero.mp z with q | q <;> exact hy q
    omega
  · have : x * x ≠ 0 := fun z => by rcases Int.mul_eq_zero.mp z with q | q <;> exact hx q
    omega
/-- on one line: what lies along it tells both axes -/
theorem meet_line {P Q R S : Pz2} (hPQ : P ≠ Q) (h1 : crs (sub2 Q P) (sub2 R P) = 0) (h2 : crs (sub2 Q P) (sub2 S P) = 0) :
    (meetI P.1 Q.1 R.1 S.1 && meetI P.2 Q.2 R.2 S.2) = (decide (min (dot2 (sub2 R P) (sub2 Q P)) (dot2 (sub2 S P) (sub2 Q P)) ≤ dot2 (sub2 Q P) (sub2 Q P)) && decide (0 ≤ max (dot2 (sub2 R P) (sub2 Q P)) (dot2 (sub2 S P) (sub2 Q P)))) := by
  have hn := dot_pos (d := sub2 Q P) (fun z => hPQ (by
    unfold sub2 at z
    have z1 := congrArg Prod.fst z
    have z2 := congrArg Prod.snd z
    simp only at z1 z2
    exact Prod.ext (by omega) (by omega)))
  have eR1 : (R.1 - P.1) * dot2 (sub2 Q P) (sub2 Q P) = dot2 (sub2 R P) (sub2 Q P) * (Q.1 - P.1) := by
    unfold crs sub2 at h1
    unfold dot2 sub2
    simp only at *
    grind
  have eR2 : (R.2 - P.2) * dot2 (sub2 Q P) (sub2 Q P) = dot2 (sub2 R P) (sub2 Q P) * (Q.2 - P.2) := by
    unfold crs sub2 at h1
    unfold dot2 sub2
    simp only at *
    grind
  have eS1 : (S.1 - P.1) * dot2 (sub2 Q P) (sub2 Q P) = dot2 (sub2 S P) (sub2 Q P) * (Q.1 - P.1) := by
    unfold crs sub2 at h2
    unfold dot2 sub2
    simp only at *
    grind
  have eS2 : (S.2 - P.2) * dot2 (sub2 Q P) (sub2 Q P) = dot2 (sub2 S P) (sub2 Q P) * (Q.2 - P.2) := by
    unfold crs sub2 at h2
    unfold dot2 sub2
    simp only at *
    grind
  generalize dot2 (sub2 Q P) (sub2 Q P) = n at *
  generalize dot2 (sub2 R P) (sub2 Q P) = a at *
  generalize dot2 (sub2 S P) (sub2 Q P) = b at *
  have m1 : Q.1 - P.1 ≠ 0 → meetI P.1 Q.1 R.1 S.1 = (decide (min a b ≤ n) && decide (0 ≤ max a b)) := fun hk => by
    have := meet_ax (p := P.1) hn hk eR1 eS1
    rw [show P.1 + (Q.1 - P.1) = Q.1 by omega, show P.1 + (R.1 - P.1) = R.1 by omega, show P.1 + (S.1 - P.1) = S.1 by omega] at this
    exact this
  have m2 : Q.2 - P.2 ≠ 0 → meetI P.2 Q.2 R.2 S.2 = (decide (min a b ≤ n) && decide (0 ≤ max a b)) := fun hk => by
    have := meet_ax (p := P.2) hn hk eR2 eS2
    rw [show P.2 + (Q.2 - P.2) = Q.2 by omega, show P.2 + (R.2 - P.2) = R.2 by omega, show P.2 + (S.2 - P.2) = S.2 by omega] at this
    exact this
  have z0 : ∀ {x k c : Int}, k = 0 → x * n = c * k → x = 0 := fun {x k c} hk e => by
    rw [hk, Int.mul_zero] at e
    rcases Int.mul_eq_zero.mp e with q | q
    · exact q
    · omega
  by_cases hx : Q.1 - P.1 = 0
  · have hy : Q.2 - P.2 ≠ 0 := fun z => hPQ (Prod.ext (by omega) (by omega))
    have r1 := z0 hx eR1
    have s1 := z0 hx eS1
    rw [m2 hy]
    have : meetI P.1 Q.1 R.1 S.1 = true := by unfold meetI; simp; omega
    rw [this, Bool.true_and]
  · rw [m1 hx]
    by_cases hy : Q.2 - P.2 = 0
    · have r1 := z0 hy eR2
      have s1 := z0 hy eS2
      have : meetI P.2 Q.2 R.2 S.2 = true := by unfold meetI; simp; omega
      rw [this, Bool.and_true]
    · rw [m2 hy, Bool.and_self]
theorem crs_anti (a b : Pz2) : crs a b = -crs b a := by unfold crs; grind
theorem touch_line {P Q R S : Pz2} (hPQ : P ≠ Q) (hT : crs (sub2 Q P) (sub2 S R) = 0) : touchP P Q R S = sharedL P (sub2 Q P) R (sub2 S R) := by
  have o1 := or1 P Q R S
  have o2 := or2 P Q R S
  rw [hT] at o2
  unfold touchP sharedL
  rw [if_pos hT]
  have eS : (R.1 + (sub2 S R).1, R.2 + (sub2 S R).2) = S := by unfold sub2; exact Prod.ext (by show R.1 + (S.1 - R.1) = S.1; omega) (by show R.2 + (S.2 - R.2) = S.2; omega)
  rw [eS]
  have ec : crs (sub2 Q P) (sub2 R P) = -crs (sub2 R P) (sub2 Q P) := crs_anti _ _
  by_cases ht : crs (sub2 R P) (sub2 Q P) = 0
  · rw [o1, o2, ht]
    have h1 : crs (sub2 Q P) (sub2 R P) = 0 := by omega
    have h2 : crs (sub2 Q P) (sub2 S P) = 0 := by
      have : crs (sub2 Q P) (sub2 S P) = crs (sub2 Q P) (sub2 S R) + crs (sub2 Q P) (sub2 R P) := by unfold crs sub2; grind
      omega
    rw [if_neg (by decide), if_pos (by decide), meet_line hPQ h1 h2, if_neg (by omega)]
  · have hne : crs (sub2 Q P) (sub2 R P) ≠ 0 := by omega
    rw [o1, o2, if_pos hne]
    rcases sgn_cases (-crs (sub2 R P) (sub2 Q P)) with ⟨a1, a2⟩ | ⟨a1, a2⟩ | ⟨a1, a2⟩
    · rw [a2, show (0 : Int) - crs (sub2 R P) (sub2 Q P) = -crs (sub2 R P) (sub2 Q P) by omega, a2, if_pos (by decide)]
    · omega
    · rw [a2, show (0 : Int) - crs (sub2 R P) (sub2 Q P) = -crs (sub2 R P) (sub2 Q P) by omega, a2, if_pos (by decide)]
theorem touch_law {P Q R S : Pz2} (hPQ : P ≠ Q) : touchP P Q R S = sharedL P (sub2 Q P) R (sub2 S R) := by
  by_cases h : crs (sub2 Q P) (sub2 S R) = 0
  · exact touch_line hPQ h
  · exact touch_cross h
/-- what is shared lies within both -/
theorem bary {a b c d N H U : Int} (hN : 0 < N) (h0 : 0 ≤ H) (h1 : H ≤ N) (u0 : 0 ≤ U) (u1 : U ≤ N) (e : a * (N - H) + b * H = c * (N - U) + d * U) : min c d ≤ max a b := by
  rcases Int.lt_or_le (max a b) (min c d) with z | z
  · exfalso
    obtain ⟨M, hM⟩ : ∃ M, M = max a b := ⟨_, rfl⟩
    have l1 := Int.mul_le_mul_of_nonneg_right (show a ≤ M by omega) (show 0 ≤ N - H by omega)
    have l2 := Int.mul_le_mul_of_nonneg_right (show b ≤ M by omega) h0
    have l3 := Int.mul_le_mul_of_nonneg_right (show M + 1 ≤ c by omega) (show 0 ≤ N - U by omega)
    have l4 := Int.mul_le_mul_of_nonneg_right (show M + 1 ≤ d by omega) u0
    have e1 : M * (N - H) + M * H = M * N := by grind
    have e2 : (M + 1) * (N - U) + (M + 1) * U = M * N + N := by grind
    omega
  · exact z
theorem shared_meet {P Q R S : Pz2} (hPQ : P ≠ Q) (h : sharedL P (sub2 Q P) R (sub2 S R) = true) : (meetI P.1 Q.1 R.1 S.1 && meetI P.2 Q.2 R.2 S.2) = true := by
  by_cases hT : crs (sub2 Q P) (sub2 S R) = 0
  · rw [← touch_line hPQ hT] at h
    unfold touchP at h
    split at h
    · cases h
    · split at h
      · exact h
      · rename_i h1 h2
        exfalso
        have o1 := or1 P Q R S
        have o2 := or2 P Q R S
        rw [hT] at o2
        rw [o1, o2, show (0 : Int) - crs (sub2 R P) (sub2 Q P) = -crs (sub2 R P) (sub2 Q P) by omega] at h1 h2
        rcases sgn_cases (-crs (sub2 R P) (sub2 Q P)) with ⟨a1, a2⟩ | ⟨a1, a2⟩ | ⟨a1, a2⟩ <;> rw [a2] at h1 h2
        · exact h1 (by decide)
        · exact h2 (by decide)
        · exact h1 (by decide)
  · have key : ∀ w : Int, 0 < w * crs (sub2 Q P) (sub2 S R) → 0 ≤ w * crs (sub2 R P) (sub2 S R) → w * crs (sub2 R P) (sub2 S R) ≤ w * crs (sub2 Q P) (sub2 S R) → 0 ≤ w * crs (sub2 R P) (sub2 Q P) → w * crs (sub2 R P) (sub2 Q P) ≤ w * crs (sub2 Q P) (sub2 S R) → (meetI P.1 Q.1 R.1 S.1 && meetI P.2 Q.2 R.2 S.2) = true := by
      intro w hN h0 h1 u0 u1
      have e1 : P.1 * (w * crs (sub2 Q P) (sub2 S R) - w * crs (sub2 R P) (sub2 S R)) + Q.1 * (w * crs (sub2 R P) (sub2 S R)) = R.1 * (w * crs (sub2 Q P) (sub2 S R) - w * crs (sub2 R P) (sub2 Q P)) + S.1 * (w * crs (sub2 R P) (sub2 Q P)) := by unfold crs sub2; grind
      have e2 : P.2 * (w * crs (sub2 Q P) (sub2 S R) - w * crs (sub2 R P) (sub2 S R)) + Q.2 * (w * crs (sub2 R P) (sub2 S R)) = R.2 * (w * crs (sub2 Q P) (sub2 S R) - w * crs (sub2 R P) (sub2 Q P)) + S.2 * (w * crs (sub2 R P) (sub2 Q P)) := by unfold crs sub2; grind
      have b1 := bary hN h0 h1 u0 u1 e1
      have b2 := bary hN u0 u1 h0 h1 e1.symm
      have b3 := bary hN h0 h1 u0 u1 e2
      have b4 := bary hN u0 u1 h0 h1 e2.symm
      unfold meetI
      simp only [Bool.and_eq_true, decide_eq_true_eq]
      exact ⟨⟨b1, b2⟩, b3, b4⟩
    unfold sharedL at h
    rw [if_neg hT] at h
    split at h
    · rename_i hn
      simp only [Bool.and_eq_true, decide_eq_true_eq] at h
      obtain ⟨⟨a1, a2⟩, a3, a4⟩ := h
      exact key (-1) (by omega) (by omega) (by omega) (by omega) (by omega)
    · rename_i hn
      simp only [Bool.and_eq_true, decide_eq_true_eq] at h
      obtain ⟨⟨a1, a2⟩, a3, a4⟩ := h
      exact key 1 (by omega) (by omega) (by omega) (by omega) (by omega)
/-- boxes apart: floors over a base -/
def apartF (B : Int) (P Q R S : Pz2) : Bool := decide (max (P.1.fdiv B) (Q.1.fdiv B) < min (R.1.fdiv B) (S.1.fdiv B)) || (decide (max (R.1.fdiv B) (S.1.fdiv B) < min (P.1.fdiv B) (Q.1.fdiv B)) || (decide (max (P.2.fdiv B) (Q.2.fdiv B) < min (R.2.fdiv B) (S.2.fdiv B)) || decide (max (R.2.fdiv B) (S.2.fdiv B) < min (P.2.fdiv B) (Q.2.fdiv B))))
theorem fdiv_lt {B x y : Int} (hB : 0 < B) (h : x.fdiv B < y.fdiv B) : x < y := by
  rcases Int.lt_or_le x y with z | z
  · exact z
  · rw [Int.fdiv_eq_ediv_of_nonneg _ (by omega), Int.fdiv_eq_ediv_of_nonneg _ (by omega)] at h
    have := Int.ediv_le_ediv hB z
    omega
theorem apart_no {B : Int} (hB : 0 < B) {P Q R S : Pz2} (hPQ : P ≠ Q) (h : apartF B P Q R S = true) : sharedL P (sub2 Q P) R (sub2 S R) = false := by
  cases e : sharedL P (sub2 Q P) R (sub2 S R) with
  | false => rfl
  | true =>
    exfalso
    have m := shared_meet hPQ e
    unfold meetI at m
    simp only [Bool.and_eq_true, decide_eq_true_eq] at m
    obtain ⟨⟨m1, m2⟩, m3, m4⟩ := m
    unfold apartF at h
    simp only [Bool.or_eq_true, decide_eq_true_eq] at h
    have lt : ∀ {a b c d : Int}, max (a.fdiv B) (b.fdiv B) < min (c.fdiv B) (d.fdiv B) → max a b < min c d := fun {a b c d} z => by
      have z1 := fdiv_lt hB (x := a) (y := c) (by omega)
      have z2 := fdiv_lt hB (x := a) (y := d) (by omega)
      have z3 := fdiv_lt hB (x := b) (y := c) (by omega)
      have z4 := fdiv_lt hB (x := b) (y := d) (by omega)
      omega
    rcases h with h | h | h | h
    · have := lt h; omega
    · have := lt h; omega
    · have := lt h; omega
    · have := lt h; omega
/-- folded back -/
def foldP (P Q R : Pz2) : Bool := decide (sgn (orient P Q R) = 0) && decide (0 < sgn ((P.1 - Q.1) * (R.1 - Q.1) + (P.2 - Q.2) * (R.2 - Q.2)))
def foldL (d e : Pz2) : Bool := decide (crs d e = 0) && decide (dot2 d e < 0)
theorem fold_law (P Q R : Pz2) : foldP P Q R = foldL (sub2 Q P) (sub2 R Q) := by
  have e1 : orient P Q R = crs (sub2 Q P) (sub2 R Q) := by unfold orient crs sub2; grind
  have e2 : (P.1 - Q.1) * (R.1 - Q.1) + (P.2 - Q.2) * (R.2 - Q.2) = -dot2 (sub2 Q P) (sub2 R Q) := by unfold dot2 sub2; grind
  unfold foldP foldL
  rw [e1, e2]
  congr 1
  · rcases sgn_cases (crs (sub2 Q P) (sub2 R Q)) with ⟨a1, a2⟩ | ⟨a1, a2⟩ | ⟨a1, a2⟩ <;> rw [a2] <;> simp <;> omega
  · rcases sgn_cases (-dot2 (sub2 Q P) (sub2 R Q)) with ⟨a1, a2⟩ | ⟨a1, a2⟩ | ⟨a1, a2⟩ <;> rw [a2] <;> simp <;> omega
/-- there and back -/
theorem there_back {P Q : Pz2} (hPQ : P ≠ Q) : foldL (sub2 Q P) (sub2 P Q) = true ∧ sharedL P (sub2 Q P) Q (sub2 P Q) = true := by
  have hn := dot_pos (d := sub2 Q P) (fun z => hPQ (by
    unfold sub2 at z
    have z1 := congrArg Prod.fst z
    have z2 := congrArg Prod.snd z
    simp only at z1 z2
    exact Prod.ext (by omega) (by omega)))
  have e1 : crs (sub2 Q P) (sub2 P Q) = 0 := by unfold crs sub2; grind
  have e2 : dot2 (sub2 Q P) (sub2 P Q) = -dot2 (sub2 Q P) (sub2 Q P) := by unfold dot2 sub2; grind
  have e3 : crs (sub2 Q P) (sub2 Q P) = 0 := by unfold crs; grind
  refine ⟨?_, ?_⟩
  · unfold foldL
    rw [e1, e2]
    simp
    omega
  · unfold sharedL
    rw [if_pos e1, if_neg (by rw [e3]; simp)]
    simp only [Bool.and_eq_true, decide_eq_true_eq]
    exact ⟨by omega, by omega⟩
end HP
namespace HP
/-! ### the edges of polygons -/
structure Ed where
  num : Nat
  at_ : Nat
  fol : Nat
  som : Nat
  many : Nat
  P : Pz2
  Q : Pz2
def nxt (ps : List PtZ) (i : Nat) : Nat := (i + 1) % ps.length
def kpE (ps : List PtZ) (i : Nat) : Bool := decide (atZ ps i ≠ atZ ps (nxt ps i))
def kept (ps : List PtZ) : List Nat := (List.range ps.length).filter (kpE ps)
def kAt (ps : List PtZ) (s : Nat) : Nat := (kept ps)[s]?.getD 0
def edg (num : Nat) (ps : List PtZ) (s : Nat) : Ed := ⟨num, kAt ps s, kAt ps ((s + 1) % (kept ps).length), s, (kept ps).length, atZ ps (kAt ps s), atZ ps (nxt ps (kAt ps s))⟩
def edsOf (num : Nat) (ps : List PtZ) : List Ed := (List.range (kept ps).length).map (edg num ps)
def edsT (pss : List (List PtZ)) : Nat → List Ed
  | 0 => []
  | k + 1 => edsT pss k ++ edsOf k ((pss[k]?).getD [])
def eds (pss : List (List PtZ)) : List Ed := edsT pss pss.length
def foldG (P Q X R : Pz2) : Bool := decide (sgn (orient P Q R) = 0) && decide (0 < sgn ((P.1 - X.1) * (R.1 - X.1) + (P.2 - X.2) * (R.2 - X.2)))
def tooP (B : Int) (e f : Ed) : Bool := if e.num = f.num ∧ e.fol = f.at_ then foldG e.P e.Q f.P f.Q else if f.num = e.num ∧ f.fol = e.at_ then foldG f.P f.Q e.P e.Q else if apartF B e.P e.Q f.P f.Q = true then false else touchP e.P e.Q f.P f.Q
def badL (e f : Ed) : Bool :=
  if e.num = f.num ∧ 2 < e.many ∧ f.som = e.som + 1 then foldL (sub2 e.Q e.P) (sub2 f.Q f.P)
  else if e.num = f.num ∧ 2 < e.many ∧ (e.som = 0 ∧ f.som + 1 = e.many) then foldL (sub2 f.Q f.P) (sub2 e.Q e.P)
  else sharedL e.P (sub2 e.Q e.P) f.P (sub2 f.Q f.P)
theorem kept_mem {ps : List PtZ} {i : Nat} : i ∈ kept ps ↔ i < ps.length ∧ kpE ps i = true := by
  unfold kept
  rw [List.mem_filter, List.mem_range]
theorem kept_sorted (ps : List PtZ) : (kept ps).Pairwise (· < ·) := List.Pairwise.filter _ List.pairwise_lt_range
theorem kept_lt {ps : List PtZ} {s t : Nat} (hs : s < t) (ht : t < (kept ps).length) : (kept ps)[s] < (kept ps)[t] := List.pairwise_iff_getElem.mp (kept_sorted ps) s t (by omega) ht hs
theorem kAt_eq {ps : List PtZ} {s : Nat} (h : s < (kept ps).length) : kAt ps s = (kept ps)[s] := by unfold kAt; rw [List.getElem?_eq_getElem h]; rfl
theorem kAt_mem {ps : List PtZ} {s : Nat} (h : s < (kept ps).length) : kAt ps s < ps.length ∧ kpE ps (kAt ps s) = true := by
  rw [kAt_eq h]
  exact kept_mem.mp (List.getElem_mem h)
theorem kAt_lt {ps : List PtZ} {s t : Nat} (hs : s < t) (ht : t < (kept ps).length) : kAt ps s < kAt ps t := by
  rw [kAt_eq ht, kAt_eq (by omega)]
  exact kept_lt hs ht
theorem kAt_inj {ps : List PtZ} {s t : Nat} (hs : s < (kept ps).length) (ht : t < (kept ps).length) (h : kAt ps s = kAt ps t) : s = t := by
  rcases Nat.lt_trichotomy s t with z | z | z
  · have := kAt_lt z ht; omega
  · exact z
  · have := kAt_lt z hs; omega
/-- where nothing is kept the place stays -/
theorem stays {ps : List PtZ} (a : Nat) : ∀ d, (∀ k, k < d → kpE ps ((a + k) % ps.length) = false) → atZ ps ((a + d) % ps.length) = atZ ps (a % ps.length)
  | 0, _ => rfl
  | d + 1, h => by
    have ih := stays a d (fun k hk => h k (by omega))
    have hd := h d (by omega)
    unfold kpE at hd
    have hd := of_decide_eq_false hd
    have e : nxt ps ((a + d) % ps.length) = (a + (d + 1)) % ps.length := by
      unfold nxt
      rw [Nat.mod_add_mod]
      rfl
    rw [e] at hd
    rw [← ih]
    exact (Classical.byContradiction fun z => hd (fun y => z y.symm))
theorem chain {ps : List PtZ} {s : Nat} (hs : s < (kept ps).length) : atZ ps (nxt ps (kAt ps s)) = atZ ps (kAt ps ((s + 1) % (kept ps).length)) := by
  obtain ⟨hi, _⟩ := kAt_mem hs
  have notk : ∀ x, x < ps.length → (∀ u, u < (kept ps).length → kAt ps u ≠ x) → kpE ps x = false := fun x hx hu => by
    cases e : kpE ps x with
    | false => rfl
    | true =>
      obtain ⟨u, hu1, hu2⟩ := List.getElem_of_mem (kept_mem.mpr ⟨hx, e⟩)
      exact absurd ((kAt_eq hu1).trans hu2) (hu u hu1)
  rcases Nat.lt_or_ge (s + 1) (kept ps).length with h | h
  · rw [Nat.mod_eq_of_lt h]
    have hj := (kAt_mem h).1
    have lt : kAt ps s < kAt ps (s + 1) := kAt_lt (Nat.lt_succ_self s) h
    have z := stays (ps := ps) (kAt ps s + 1) (kAt ps (s + 1) - (kAt ps s + 1)) (fun k hk => by
      rw [Nat.mod_eq_of_lt (by omega)]
      refine notk _ (by omega) fun u hu e => ?_
      rcases Nat.lt_or_ge u (s + 1) with y | y
      · rcases Nat.lt_or_ge u s with y2 | y2
        · have := kAt_lt y2 hs; omega
        · have : u = s := by omega
          subst this; omega
      · rcases Nat.lt_or_ge (s + 1) u with y2 | y2
        · have := kAt_lt y2 hu; omega
        · have : u = s + 1 := by omega
          subst this; omega)
    rw [show kAt ps s + 1 + (kAt ps (s + 1) - (kAt ps s + 1)) = kAt ps (s + 1) by omega, Nat.mod_eq_of_lt hj] at z
    unfold nxt
    exact z.symm
  · have e1 : s + 1 = (kept ps).length := by omega
    rw [e1, Nat.mod_self]
    have h0 : 0 < (kept ps).length := by omega
    have hj := (kAt_mem h0).1
    have le0 : ∀ u, u < (kept ps).length → kAt ps 0 ≤ kAt ps u := fun u hu => by
      rcases Nat.eq_zero_or_pos u with y | y
      · rw [y]; exact Nat.le_refl _
      · exact Nat.le_of_lt (kAt_lt y hu)
    have les : ∀ u, u < (kept ps).length → kAt ps u ≤ kAt ps s := fun u hu => by
      rcases Nat.lt_or_ge u s with y | y
      · exact Nat.le_of_lt (kAt_lt y hs)
      · have : u = s := by omega
        subst this; exact Nat.le_refl _
    have z := stays (ps := ps) (kAt ps s + 1) (kAt ps 0 + ps.length - (kAt ps s + 1)) (fun k hk => by
      rcases Nat.lt_or_ge (kAt ps s + 1 + k) ps.length with y | y
      · rw [Nat.mod_eq_of_lt y]
        refine notk _ y fun u hu e => ?_
        have := les u hu; omega
      · have e2 : (kAt ps s + 1 + k) % ps.length = kAt ps s + 1 + k - ps.length := by
          rw [Nat.mod_eq_sub_mod y, Nat.mod_eq_of_lt (by omega)]
        rw [e2]
        refine notk _ (by omega) fun u hu e => ?_
        have := le0 u hu; omega)
    rw [show kAt ps s + 1 + (kAt ps 0 + ps.length - (kAt ps s + 1)) = kAt ps 0 + ps.length by omega, Nat.add_mod_right, Nat.mod_eq_of_lt hj] at z
    unfold nxt
    exact z.symm
theorem edg_ne {num : Nat} {ps : List PtZ} {s : Nat} (h : s < (kept ps).length) : (edg num ps s).P ≠ (edg num ps s).Q := of_decide_eq_true (kAt_mem h).2
theorem plain_too {B : Int} (hB : 0 < B) {e f : Ed} (h1 : ¬ (e.num = f.num ∧ e.fol = f.at_)) (h2 : ¬ (f.num = e.num ∧ f.fol = e.at_)) (hne : e.P ≠ e.Q) : tooP B e f = sharedL e.P (sub2 e.Q e.P) f.P (sub2 f.Q f.P) := by
  unfold tooP
  rw [if_neg h1, if_neg h2]
  split
  · rename_i h
    exact (apart_no hB hne h).symm
  · exact touch_law hne
theorem too_bad1 {B : Int} (hB : 0 < B) {num : Nat} {ps : List PtZ} {s t : Nat} (hst : s < t) (ht : t < (kept ps).length) : tooP B (edg num ps s) (edg num ps t) = badL (edg num ps s) (edg num ps t) := by
  have hs : s < (kept ps).length := by omega
  have hne := edg_ne (num := num) hs
  have c1 := chain hs
  have c2 := chain ht
  have fol1 : (edg num ps s).fol = (edg num ps t).at_ ↔ t = s + 1 := by
    show kAt ps ((s + 1) % (kept ps).length) = kAt ps t ↔ _
    rw [Nat.mod_eq_of_lt (by omega)]
    exact ⟨fun z => (kAt_inj (by omega) ht z).symm, fun z => by rw [z]⟩
  have fol2 : (edg num ps t).fol = (edg num ps s).at_ ↔ (s = 0 ∧ t + 1 = (kept ps).length) := by
    show kAt ps ((t + 1) % (kept ps).length) = kAt ps s ↔ _
    rcases Nat.lt_or_ge (t + 1) (kept ps).length with h | h
    · rw [Nat.mod_eq_of_lt h]
      exact ⟨fun z => by have := kAt_inj h hs z; omega, fun z => by omega⟩
    · have e1 : t + 1 = (kept ps).length := by omega
      rw [e1, Nat.mod_self]
      exact ⟨fun z => ⟨(kAt_inj (by omega) hs z).symm, rfl⟩, fun z => by rw [z.1]⟩
  by_cases h1 : t = s + 1
  · have eP : (edg num ps t).P = (edg num ps s).Q := by
      show atZ ps (kAt ps t) = atZ ps (nxt ps (kAt ps s))
      rw [c1, h1, Nat.mod_eq_of_lt (by omega)]
    have e0 : tooP B (edg num ps s) (edg num ps t) = foldL (sub2 (edg num ps s).Q (edg num ps s).P) (sub2 (edg num ps t).Q (edg num ps t).P) := by
      unfold tooP
      rw [if_pos ⟨rfl, fol1.mpr h1⟩, eP, ← fold_law]
      rfl
    rw [e0]
    unfold badL
    by_cases h2 : 2 < (kept ps).length
    · rw [if_pos ⟨rfl, h2, h1⟩]
    · have hm : (kept ps).length = 2 := by omega
      have s0 : s = 0 := by omega
      have t1 : t = 1 := by omega
      have eQ : (edg num ps t).Q = (edg num ps s).P := by
        show atZ ps (nxt ps (kAt ps t)) = atZ ps (kAt ps s)
        rw [c2, t1, hm, s0]
      rw [if_neg (fun z => h2 z.2.1), if_neg (fun z => h2 z.2.1), eP, eQ]
      obtain ⟨z1, z2⟩ := there_back hne
      rw [z1, z2]
  · by_cases h2 : s = 0 ∧ t + 1 = (kept ps).length
    · have hm : 2 < (kept ps).length := by omega
      have eQ : (edg num ps s).P = (edg num ps t).Q := by
        show atZ ps (kAt ps s) = atZ ps (nxt ps (kAt ps t))
        rw [c2, h2.2, Nat.mod_self, h2.1]
      unfold tooP badL
      rw [if_neg (fun z => h1 (fol1.mp z.2)), if_pos ⟨rfl, fol2.mpr h2⟩, if_neg (fun z => h1 z.2.2), if_pos ⟨rfl, hm, h2.1, h2.2⟩, eQ, ← fold_law]
      rfl
    · rw [plain_too hB (fun z => h1 (fol1.mp z.2)) (fun z => h2 (fol2.mp z.2)) hne]
      unfold badL
      rw [if_neg (fun z => h1 z.2.2), if_neg (fun z => h2 z.2.2)]
theorem too_bad2 {B : Int} (hB : 0 < B) {e f : Ed} (hn : e.num ≠ f.num) (hne : e.P ≠ e.Q) : tooP B e f = badL e f := by
  rw [plain_too hB (fun z => hn z.1) (fun z => hn z.1.symm) hne]
  unfold badL
  rw [if_neg (fun z => hn z.1), if_neg (fun z => hn z.1)]
/-- before each other -/
theorem edsT_num {pss : List (List PtZ)} : ∀ k, ∀ e ∈ edsT pss k, e.num < k ∧ ∃ s, s < (kept ((pss[e.num]?).getD [])).length ∧ e = edg e.num ((pss[e.num]?).getD []) s
  | 0, e, h => nomatch h
  | k + 1, e, h => by
    rcases List.mem_append.mp h with h | h
    · obtain ⟨h1, h2⟩ := edsT_num k e h
      exact ⟨by omega, h2⟩
    · obtain ⟨s, hs, rfl⟩ := List.mem_map.mp h
      exact ⟨Nat.lt_succ_self _, s, List.mem_range.mp hs, rfl⟩
theorem edsT_pair {B : Int} (hB : 0 < B) {pss : List (List PtZ)} : ∀ k, (edsT pss k).Pairwise fun e f => tooP B e f = badL e f
  | 0 => .nil
  | k + 1 => by
    refine List.pairwise_append.mpr ⟨edsT_pair hB k, ?_, fun e he f hf => ?_⟩
    · refine List.pairwise_map.mpr (List.Pairwise.imp_of_mem (fun {s t} hs ht h => ?_) List.pairwise_lt_range)
      exact too_bad1 hB h (List.mem_range.mp ht)
    · obtain ⟨h1, s, h2, h3⟩ := edsT_num k e he
      obtain ⟨t, ht, rfl⟩ := List.mem_map.mp hf
      refine too_bad2 hB (show e.num ≠ k by omega) ?_
      rw [h3]
      exact edg_ne h2
/-- the first pair -/
def crossIn (T : Ed → Ed → Bool) : List Ed → Option ((Nat × Nat) × (Nat × Nat))
  | [] => none
  | e :: r => match r.find? (T e) with
    | some f => some ((e.num, e.at_), (f.num, f.at_))
    | none => crossIn T r
theorem crossIn_eq {T U : Ed → Ed → Bool} : ∀ {l : List Ed}, l.Pairwise (fun e f => T e f = U e f) → crossIn T l = crossIn U l
  | [], _ => rfl
  | e :: r, h => by
    rw [List.pairwise_cons] at h
    have e1 : r.find? (T e) = r.find? (U e) := by
      have : ∀ {r : List Ed}, (∀ f ∈ r, T e f = U e f) → r.find? (T e) = r.find? (U e) := by
        intro r
        induction r with
        | nil => intro _; rfl
        | cons x r ih =>
          intro hx
          rw [List.find?_cons, List.find?_cons, hx x List.mem_cons_self, ih fun f hf => hx f (List.mem_cons_of_mem _ hf)]
      exact this h.1
    unfold crossIn
    rw [e1, crossIn_eq h.2]
theorem cross_law {B : Int} (hB : 0 < B) (pss : List (List PtZ)) : crossIn (tooP B) (eds pss) = crossIn badL (eds pss) := crossIn_eq (edsT_pair hB _)
end HP
namespace HP
open PySem PySem.Spec PyProof.Rows L2
/-! ### edges as things, and what looks at them tell -/
/-- what is no list stays -/
def Stay (H H' : Hp) : Prop := ∀ b o, H b = some o → (∀ xs, o ≠ .lst xs) → H' b = some o
theorem Same.stay {H H' : Hp} (s : Same H H') : Stay H H' := fun b o h _ => s b o h
theorem Stay.trans {H H1 H2 : Hp} (a : Stay H H1) (b : Stay H1 H2) : Stay H H2 := fun c o h n => b c o (a c o h n) n
theorem Stay.lst {H : Hp} {D : Addr} {zs : List V} {z : HO} (hD : H D = some (.lst zs)) : Stay H (upd H D z) := fun b o e n => by
  by_cases y : b = D
  · subst y; rw [hD] at e; cases e; exact absurd rfl (n _)
  · rw [upd_ne y]; exact e
theorem Stay.im {H H' : Hp} (s : Stay H H') : Im H H' := fun b xs h => s b _ h fun _ z => by cases z
theorem PlB.im {H H' : Hp} {B : Int} {v : V} {p : PtZ} (h : PlB H B v p) (s : Im H H') : PlB H' B v p := by
  obtain ⟨t, u, w, e, h1, h2, h3⟩ := h
  exact ⟨t, u, w, e, s _ _ h1, h2.im s, h3.im s⟩
def T3 (H : Hp) (t : Addr) (u : W3) : Prop := H t = some (.tup [.int u.1, .int u.2.1, .int u.2.2])
def B3 (u : W3) : Prop := Bt 150 u.1 ∧ Bt 150 u.2.1 ∧ Bt 10 u.2.2
def WS (B : Int) (P : Pz2) (u : W3) : Prop := WH B P u ∧ B3 u
def Sm1 (p : Pz2) : Prop := Bt 130 p.1 ∧ Bt 130 p.2
def BX4 (H : Hp) (t : Addr) (B : Int) (P R : Pz2) : Prop := H t = some (.tup [.int (min (P.1.fdiv B) (R.1.fdiv B)), .int (max (P.1.fdiv B) (R.1.fdiv B)), .int (min (P.2.fdiv B) (R.2.fdiv B)), .int (max (P.2.fdiv B) (R.2.fdiv B))])
def edF (a f b e wb we l x : V) : List (Str × V) := putF "box" x (putF "line" l (putF "whole_end" we (putF "whole_begin" wb (putF "end" e (putF "begin" b (putF "follower" f (putF "at" a [])))))))
section
variable {a f b e wb we l x : V}
theorem ed_at : (edF a f b e wb we l x).lookup ("at" : Str) = some a := by unfold edF; simp +decide only [lookup_putF, if_true, if_false]
theorem ed_follower : (edF a f b e wb we l x).lookup ("follower" : Str) = some f := by unfold edF; simp +decide only [lookup_putF, if_true, if_false]
theorem ed_begin : (edF a f b e wb we l x).lookup ("begin" : Str) = some b := by unfold edF; simp +decide only [lookup_putF, if_true, if_false]
theorem ed_end : (edF a f b e wb we l x).lookup ("end" : Str) = some e := by unfold edF; simp +decide only [lookup_putF, if_true, if_false]
theorem ed_whole_begin : (edF a f b e wb we l x).lookup ("whole_begin" : Str) = some wb := by unfold edF; simp +decide only [lookup_putF, if_true, if_false]
theorem ed_whole_end : (edF a f b e wb we l x).lookup ("whole_end" : Str) = some we := by unfold edF; simp +decide only [lookup_putF, if_true, if_false]
theorem ed_line : (edF a f b e wb we l x).lookup ("line" : Str) = some l := by unfold edF; simp +decide only [lookup_putF, if_true, if_false]
theorem ed_box : (edF a f b e wb we l x).lookup ("box" : Str) = some x := by unfold edF; simp +decide only [lookup_putF, if_true, if_false]
end
structure EdR (C : Addr) (B : Int) (H : Hp) (v : V) (e : Ed) : Prop where
  ex : ∃ a dx ta tf vb ve tb te tl tx u w, v = .ref a ∧ H a = some (.ins C dx (edF (.ref ta) (.ref tf) vb ve (.ref tb) (.ref te) (.ref tl) (.ref tx))) ∧ H ta = some (.tup [.int (e.num : Nat), .int (e.at_ : Nat)]) ∧ H tf = some (.tup [.int (e.num : Nat), .int (e.fol : Nat)]) ∧
    PlB H B vb e.P ∧ PlB H B ve e.Q ∧ T3 H tb u ∧ T3 H te w ∧ WS B e.P u ∧ WS B e.Q w ∧ T3 H tl (lineW u w) ∧ BX4 H tx B e.P e.Q ∧ Sm1 e.P ∧ Sm1 e.Q
theorem EdR.stay {C : Addr} {B : Int} {H H' : Hp} {v : V} {e : Ed} (h : EdR C B H v e) (s : Stay H H') : EdR C B H' v e := by
  obtain ⟨a, dx, ta, tf, vb, ve, tb, te, tl, tx, u, w, h0, h1, h2, h3, h4, h5, h6, h7, h8, h9, h10, h11, h12⟩ := h.ex
  exact ⟨a, dx, ta, tf, vb, ve, tb, te, tl, tx, u, w, h0, s _ _ h1 (fun _ z => by cases z), s.im _ _ h2, s.im _ _ h3, h4.im s.im, h5.im s.im, s.im _ _ h6, s.im _ _ h7, h8, h9, s.im _ _ h10, s.im _ _ h11, h12⟩
def LE (C : Addr) (B : Int) (H : Hp) (a : Addr) (es : List Ed) : Prop := ∃ vs, H a = some (.lst vs) ∧ Pz (EdR C B H) vs es
theorem LE.same {C : Addr} {B : Int} {H H' : Hp} {a : Addr} {es : List Ed} (h : LE C B H a es) (s : Same H H') : LE C B H' a es := by
  obtain ⟨vs, h1, h2⟩ := h
  exact ⟨vs, s _ _ h1, h2.map fun _ _ z => EdR.stay z (Same.stay s)⟩
theorem LE.nil {C : Addr} {B : Int} {H : Hp} {a : Addr} (h : H a = some (.lst [])) : LE C B H a [] := ⟨[], h, .nil⟩
theorem LE.join {C : Addr} {B : Int} {H : Hp} {a : Addr} {es fs : List Ed} {ws : List V} (h : LE C B H a es) (k : Pz (EdR C B H) ws fs) : ∃ vs, H a = some (.lst vs) ∧ vs.length = es.length ∧ LE C B (upd H a (.lst (vs ++ ws))) a (es ++ fs) := by
  obtain ⟨vs, h1, h2⟩ := h
  exact ⟨vs, h1, h2.len, vs ++ ws, upd_same, (h2.app k).map fun _ _ z => z.stay (Stay.lst h1)⟩

/-! whole numbers of places -/
theorem num_den {B x : Int} (hB : 0 < B) : ((x : Rat) / (B : Rat)).num * B = x * (((x : Rat) / (B : Rat)).den : Int) := by
  have e : Rat.divInt x B = Rat.divInt ((x : Rat) / (B : Rat)).num ((((x : Rat) / (B : Rat)).den : Nat) : Int) := by
    rw [Rat.num_divInt_den, Rat.divInt_eq_div]
  exact ((Rat.divInt_eq_divInt_iff (by omega) (by have := ((x : Rat) / (B : Rat)).den_pos; omega)).mp e).symm
theorem whole_of {B : Int} (hB : 0 < B) (bB : Bt 8 B) {p : Pz2} (sp : Sm1 p) {L a b : Int} (ha : a = (((p.1 : Rat) / (B : Rat)).den : Int)) (hb : b = (((p.2 : Rat) / (B : Rat)).den : Int)) (hL : L = ((Nat.lcm a.natAbs b.natAbs : Nat) : Int)) :
    WS B p (((p.1 : Rat) / (B : Rat)).num * L.fdiv a, ((p.2 : Rat) / (B : Rat)).num * L.fdiv b, L) := by
  have a0 : 0 < a := by rw [ha]; have := ((p.1 : Rat) / (B : Rat)).den_pos; omega
  have b0 : 0 < b := by rw [hb]; have := ((p.2 : Rat) / (B : Rat)).den_pos; omega
  have e1 := num_den (x := p.1) hB
  have e2 := num_den (x := p.2) hB
  rw [← ha] at e1
  rw [← hb] at e2
  have d1 : a ∣ B := ha ▸ den_dvdE hB
  have d2 : b ∣ B := hb ▸ den_dvdE hB
  have dL : L ∣ B := by
    rw [hL, show B = ((B.natAbs : Nat) : Int) by omega]
    exact Int.natCast_dvd_natCast.mpr (Nat.lcm_dvd (Int.natAbs_dvd_natAbs.mpr d1) (Int.natAbs_dvd_natAbs.mpr d2))
  have k1 : a ∣ L := by
    rw [hL, show a = ((a.natAbs : Nat) : Int) by omega, Int.natAbs_natCast]
    exact Int.natCast_dvd_natCast.mpr (Nat.dvd_lcm_left _ _)
  have k2 : b ∣ L := by
    rw [hL, show b = ((b.natAbs : Nat) : Int) by omega, Int.natAbs_natCast]
    exact Int.natCast_dvd_natCast.mpr (Nat.dvd_lcm_right _ _)
  have L0 : 0 < L := by
    rw [hL]
    have := Nat.lcm_pos (m := a.natAbs) (n := b.natAbs) (by omega) (by omega)
    omega
  have LB : L ≤ B := Int.le_of_dvd hB dL
  obtain ⟨u, hu⟩ := k1
  obtain ⟨w, hw⟩ := k2
  have f1 : L.fdiv a = u := by rw [hu, Int.mul_fdiv_cancel_left _ (by omega)]
  have f2 : L.fdiv b = w := by rw [hw, Int.mul_fdiv_cancel_left _ (by omega)]
  rw [f1, f2]
  generalize ((p.1 : Rat) / (B : Rat)).num = n1 at e1 ⊢
  generalize ((p.2 : Rat) / (B : Rat)).num = n2 at e2 ⊢
  have g1 : n1 * u * B = p.1 * L := by rw [hu]; grind
  have g2 : n2 * w * B = p.2 * L := by rw [hw]; grind
  have bd : ∀ {z q : Int}, z * B = q * L → Bt 130 q → Bt 150 z := fun {z q} h hq => ⟨by
    have h1 : z.natAbs * B.natAbs = q.natAbs * L.natAbs := by rw [← Int.natAbs_mul, ← Int.natAbs_mul, h]
    have h2 : z.natAbs * B.natAbs ≤ q.natAbs * B.natAbs := by rw [h1]; exact Nat.mul_le_mul_left _ (by omega)
    have h3 := Nat.le_of_mul_le_mul_right h2 (by omega)
    exact Nat.lt_of_le_of_lt h3 (Nat.lt_of_lt_of_le hq.lt (by decide))⟩
  exact ⟨⟨L0, g1, g2⟩, bd g1 sp.1, bd g2 sp.2, ⟨Nat.lt_of_le_of_lt (show L.natAbs ≤ B.natAbs by omega) (Nat.lt_of_lt_of_le bB.lt (by decide))⟩⟩
theorem less_B {B a b : Int} (hB : 0 < B) : decide ((a : Rat) / (B : Rat) < (b : Rat) / (B : Rat)) = decide (a < b) := by
  have hb : (0 : Rat) < (B : Rat) := Rat.intCast_pos.mpr hB
  refine decide_eq_decide.mpr ?_
  rw [Rat.div_lt_iff hb, Rat.div_mul_cancel (fun z => by rw [z] at hb; exact absurd hb (by decide)), Rat.intCast_lt_intCast]
theorem flo_B {B x : Int} (hB : 0 < B) {H : Hp} {v : V} (h : NQ H v (flq ((x : Rat) / (B : Rat)) ((1 : Int) : Rat))) : v = .int (x.fdiv B) := by
  refine NQ.isint (h.is ?_)
  unfold flq
  rw [show (((1 : Int) : Rat)) = 1 from rfl, Rat.div_def, show ((1 : Rat))⁻¹ = 1 by decide +kernel, Rat.mul_one, Rat.mul_one, fl_div hB, Int.fdiv_eq_ediv_of_nonneg _ (Int.le_of_lt hB)]

/-! promises -/
def spWhole : Sp := fun vs H Q _ => ∃ v B p, vs = [v] ∧ 0 < B ∧ Bt 8 B ∧ PlB H B v p ∧ Sm1 p ∧ ∀ t u H', Same H H' → T3 H' t u → WS B p u → Q (.ref t) H'
def spLineW : Sp := fun vs H Q _ => ∃ t1 t2 u w, vs = [.ref t1, .ref t2] ∧ T3 H t1 u ∧ T3 H t2 w ∧ B3 u ∧ B3 w ∧ ∀ t H', Same H H' → T3 H' t (lineW u w) → Q (.ref t) H'
def spBoxE : Sp := fun vs H Q _ => ∃ v w B p r, vs = [v, w] ∧ 0 < B ∧ Bt 8 B ∧ PlB H B v p ∧ PlB H B w r ∧ Sm1 p ∧ Sm1 r ∧ ∀ t H', Same H H' → BX4 H' t B p r → Q (.ref t) H'
def spEdge (C : Addr) : Sp := fun vs H Q _ => ∃ a dx ta tf vb ve B e, vs = [.ref a, .ref ta, .ref tf, vb, ve] ∧ 0 < B ∧ Bt 8 B ∧ H a = some (.ins C dx []) ∧ H ta = some (.tup [.int ((e : Ed).num : Nat), .int (e.at_ : Nat)]) ∧ H tf = some (.tup [.int (e.num : Nat), .int (e.fol : Nat)]) ∧ PlB H B vb e.P ∧ PlB H B ve e.Q ∧ Sm1 e.P ∧ Sm1 e.Q ∧
  ∀ H', (∀ b o, H b = some o → b ≠ a → H' b = some o) → EdR C B H' (.ref a) e → Q .non H'
def spEdgesOf (K : PySem.W.Frag) (C : Addr) : Sp := fun vs H Q _ => ∃ (n : Nat) (tu : Bool) (a : Addr) (B : Int) (ps : List PtZ), vs = [.int (n : Int), .ref a] ∧ 0 < B ∧ Bt 8 B ∧ PolB tu K H a B ps ∧ 1 ≤ ps.length ∧ ps.length ≤ 100 ∧ SmZ 130 ps ∧ ∀ r H', Same H H' → LE C B H' r (edsOf n ps) → Q (.ref r) H'
def spSide : Sp := fun vs H Q _ => ∃ t1 t2 l w, vs = [.ref t1, .ref t2] ∧ T3 H t1 l ∧ T3 H t2 w ∧ (Bt 400 l.1 ∧ Bt 400 l.2.1 ∧ Bt 400 l.2.2) ∧ B3 w ∧ ∀ H', Same H H' → Q (.int (sgn (valW l w))) H'
def spEd2 (C : Addr) (f : Int → Ed → Ed → Bool) : Sp := fun vs H Q _ => ∃ v w B x y, vs = [v, w] ∧ 0 < B ∧ Bt 8 B ∧ EdR C B H v x ∧ EdR C B H w y ∧ ∀ H', Same H H' → Q (.bl (f B x y)) H'
def spMeet : Sp := fun vs H Q _ => ∃ t1 t2 u1 w1 u2 w2 B a b c d, vs = [.ref t1, .ref t2] ∧ H t1 = some (.tup [u1, w1]) ∧ H t2 = some (.tup [u2, w2]) ∧ NQ H u1 (((a : Int) : Rat) / ((B : Int) : Rat)) ∧ NQ H w1 (((b : Int) : Rat) / (B : Rat)) ∧ NQ H u2 (((c : Int) : Rat) / (B : Rat)) ∧ NQ H w2 (((d : Int) : Rat) / (B : Rat)) ∧ 0 < B ∧ Bt 8 B ∧ (Bt 130 a ∧ Bt 130 b ∧ Bt 130 c ∧ Bt 130 d) ∧ ∀ H', Same H H' → Q (.bl (meetI a b c d)) H'
def crV (H : Hp) (v : V) : Option ((Nat × Nat) × (Nat × Nat)) → Prop
  | none => v = .non
  | some ((a, b), (c, d)) => ∃ t t1 t2, v = .ref t ∧ H t = some (.tup [.ref t1, .ref t2]) ∧ H t1 = some (.tup [.int (a : Int), .int (b : Int)]) ∧ H t2 = some (.tup [.int (c : Int), .int (d : Int)])
def spCross (K : PySem.W.Frag) : Sp := fun vs H Q _ => ∃ tu tb a B pss, vs = [.ref a] ∧ 0 < B ∧ Bt 8 B ∧ PolsB tu tb K H a B pss ∧ OkP pss ∧ ∀ v H', Same H H' → crV H' v (crossIn (tooP B) (eds pss)) → Q v H'
def apE (B : Int) (e f : Ed) : Bool := apartF B e.P e.Q f.P f.Q
def toE (B : Int) (e f : Ed) : Bool := if apartF B e.P e.Q f.P f.Q = true then false else touchP e.P e.Q f.P f.Q
def foE (_ : Int) (e f : Ed) : Bool := foldG e.P e.Q f.P f.Q
theorem q_min2 {K : PySem.W.Frag} {H : Hp} {Q : VK} {p : Addr} {i j : Int} (h : H p = some (.lst [.int i, .int j])) (q : Q (.int (min i j)) H) : L2.rMin K [.ref p] H Q :=
  ⟨p, [i, j], rfl, SqL.of h, Nat.succ_pos _, fun m hm hl => by
    have h1 := hl i (by simp)
    have h2 := hl j (by simp)
    have e : m = min i j := by
      rcases List.mem_cons.mp hm with z | z
      · omega
      · have := List.mem_singleton.mp z; omega
    rw [e]; exact q⟩
theorem q_max2 {K : PySem.W.Frag} {H : Hp} {Q : VK} {p : Addr} {i j : Int} (h : H p = some (.lst [.int i, .int j])) (q : Q (.int (max i j)) H) : L2.rMax K [.ref p] H Q :=
  ⟨p, [i, j], rfl, SqL.of h, Nat.succ_pos _, fun m hm hl => by
    have h1 := hl i (by simp)
    have h2 := hl j (by simp)
    have e : m = max i j := by
      rcases List.mem_cons.mp hm with z | z
      · omega
      · have := List.mem_singleton.mp z; omega
    rw [e]; exact q⟩
theorem bq1 {B x : Int} (hB : 0 < B) (bB : Bt 8 B) (h : Bt 130 x) : BQ 130 ((x : Rat) / (B : Rat)) := BQ.of h (bB.mono (by decide)) (by omega)

/-! a new thing whose fields are put one by one -/
def Oth (a : Addr) (H H' : Hp) : Prop := ∀ b o, H b = some o → b ≠ a → H' b = some o
theorem Oth.put {a : Addr} {H H' : Hp} {o : HO} (h : Oth a H H') : Oth a H (upd H' a o) := fun b o' e n => by
  rw [upd_ne n]; exact h b o' e n
theorem Oth.same {a : Addr} {H H1 H2 : Hp} (h : Oth a H H1) (s : Same H1 H2) : Oth a H H2 := fun b o e n => s _ _ (h b o e n)
theorem Oth.im {a C dx : Addr} {fs : List (Str × V)} {H H' : Hp} (h : Oth a H H') (ha : H a = some (.ins C dx fs)) : Im H H' := fun b xs e => h b _ e fun z => by
  subst z; rw [ha] at e; cases e
theorem Im.ins {a C dx : Addr} {fs : List (Str × V)} {H : Hp} {z : HO} (ha : H a = some (.ins C dx fs)) : Im H (upd H a z) := fun b xs e => by
  rw [upd_ne (fun y => by subst y; rw [ha] at e; cases e)]
  exact e
theorem fl_le {fs : List (Str × V)} {f : Str} {v : V} {k : Nat} (h : fs.length ≤ k) : (putF f v fs).length ≤ k + 1 := by
  suffices ∀ fs : List (Str × V), (putF f v fs).length ≤ fs.length + 1 from Nat.le_trans (this fs) (Nat.succ_le_succ h)
  intro fs
  induction fs with
  | nil => exact Nat.le_refl _
  | cons x r ih =>
    obtain ⟨g, y⟩ := x
    unfold putF
    split
    · simp
    · simp only [List.length_cons]; omega
theorem fl_lt {fs : List (Str × V)} {k : Nat} (h : fs.length ≤ k) (hk : k < 1000) : fs.length < 1000 := Nat.lt_of_le_of_lt h hk
theorem sgn_by {x : Int} : (if x = 0 then (0 : Int) else if 0 < x then 1 else -1) = sgn x := by
  unfold sgn
  split
  · rename_i h; subst h; rfl
  · split
    · rw [if_neg (by omega)]
    · rw [if_pos (by omega)]
theorem meet_by {a b c d lo hi lo2 hi2 : Int} (h1 : (lo = a ∧ hi = b ∧ a ≤ b) ∨ (lo = b ∧ hi = a ∧ b ≤ a)) (h2 : (lo2 = c ∧ hi2 = d ∧ c ≤ d) ∨ (lo2 = d ∧ hi2 = c ∧ d ≤ c)) : meetI a b c d = (!decide (hi < lo2) && !decide (hi2 < lo)) := by
  unfold meetI
  rw [Bool.eq_iff_iff]
  simp only [Bool.and_eq_true, Bool.not_eq_true', decide_eq_true_eq, decide_eq_false_iff_not]
  omega
theorem lk_wb {fs : List (Str × V)} {we wb : V} : (putF "whole_end" we (putF "whole_begin" wb fs)).lookup ("whole_begin" : Str) = some wb := by simp +decide only [lookup_putF, if_true, if_false]
theorem lk_we {fs : List (Str × V)} {we : V} : (putF "whole_end" we fs).lookup ("whole_end" : Str) = some we := by simp +decide only [lookup_putF, if_true, if_false]
theorem line_b {u w : W3} (h : B3 u) (k : B3 w) : Bt 400 (lineW u w).1 ∧ Bt 400 (lineW u w).2.1 ∧ Bt 400 (lineW u w).2.2 := by
  obtain ⟨a1, a2, a3⟩ := h
  obtain ⟨b1, b2, b3⟩ := k
  unfold lineW
  exact ⟨((a2.mul b3).sub2 ((a3.mul b2).mono (by decide))).mono (by decide), ((a3.mul b1).sub2 ((a1.mul b3).mono (by decide))).mono (by decide), ((a1.mul b2).sub2 (a2.mul b1)).mono (by decide)⟩
theorem sgn_bt {n : Nat} {x : Int} (h : 1 ≤ n) : Bt n (sgn x) := by
  refine Bt.mono (n := 1) ⟨?_⟩ h
  rcases sgn_cases x with ⟨_, e⟩ | ⟨_, e⟩ | ⟨_, e⟩ <;> rw [e] <;> decide
theorem fold_q {B a b c d e f : Int} (hB : 0 < B) : ((a : Rat) / (B : Rat) - (b : Rat) / (B : Rat)) * ((c : Rat) / (B : Rat) - (b : Rat) / (B : Rat)) + ((d : Rat) / (B : Rat) - (e : Rat) / (B : Rat)) * ((f : Rat) / (B : Rat) - (e : Rat) / (B : Rat)) = (((a - b) * (c - b) + (d - e) * (f - e) : Int) : Rat) / ((B * B : Int) : Rat) := by
  have hb : (B : Rat) ≠ 0 := fun z => by
    have : B = 0 := Rat.intCast_inj.mp z
    omega
  rw [Rat.intCast_add, Rat.intCast_mul, Rat.intCast_mul, Rat.intCast_mul, Rat.intCast_sub, Rat.intCast_sub, Rat.intCast_sub, Rat.intCast_sub]
  grind
theorem q_eq2 {K : PySem.W.Frag} {H : Hp} {Q : VK} {a b : Addr} {i j k l : Nat} (h : H a = some (.tup [.int (i : Int), .int (j : Int)])) (h' : H b = some (.tup [.int (k : Int), .int (l : Int)])) (q : Q (.bl (decide (i = k ∧ j = l))) H) : rEqD K (.ref a) (.ref b) H Q :=
  ⟨.tuple [.int i, .int j], .tuple [.int k, .int l], .tup (SqT.of h) (.cons (.int _) (.cons (.int _) .nil)), .tup (SqT.of h') (.cons (.int _) (.cons (.int _) .nil)), rfl, rfl, by
    have e : PyData.eqv (.tuple [.int (i : Int), .int (j : Int)]) (.tuple [.int (k : Int), .int (l : Int)]) = decide (i = k ∧ j = l) := by
      by_cases z : i = k ∧ j = l
      · obtain ⟨rfl, rfl⟩ := z
        rw [decide_eq_true ⟨rfl, rfl⟩]
        exact SeqAt.eqv_refl _ rfl
      · rw [decide_eq_false z]
        refine Bool.eq_false_iff.mpr fun y => z ?_
        simp [PyData.eqv, PyData.eqvAll] at y
        exact ⟨by omega, by omega⟩
    rw [e]
    exact q⟩
theorem ix_seqK {X : Cx} {K : PySem.W.Frag} (h : X.K = K) : IxR X (rIx K) := h ▸ ix_seq
theorem op_neDK {X : Cx} {K : PySem.W.Frag} (h : X.K = K) (hu : X.A.units + 64 < cLine) : OpR X (compareOp .NotEq) (rNeD K) := h ▸ op_neD hu
theorem sqE_or {tu : Bool} {K : PySem.W.Frag} {H : Hp} {a : Addr} {xs : List V} (h : SqE tu K H a xs) : SqT K H a xs ∨ SqL K H a xs := by
  cases tu with
  | false => exact .inr (SqL.of h)
  | true => exact .inl (SqT.of h)
theorem lc_enumE {tu : Bool} {K : PySem.W.Frag} {a : Addr} {xs : List V} {g : TG} {tt : TT} {te : TE} {vs : List Nat} {σ : L2.St} {H1 : Hp} {Qd : Addr → Hp → Prop} (h : SqE tu K H1 a xs) (Pv : Addr → Nat → Hp → Prop) (h0 : ∀ D, H1 D = none → Pv D 0 (upd H1 D (.lst []))) (hl : ∀ D i H, i ≤ xs.length → H1 D = none → Pv D i H → SqE tu K H a xs)
    (hs : ∀ D i T x H, xs[i]? = some x → H1 D = none → Pv D i H → H T = none → g (.ref T) (wipe σ vs) (upd H T (.tup [.int (i : Nat), x])) fun σ2 H2 => wipe σ2 vs = wipe σ vs ∧ tt σ2 H2 fun b H3 =>
      if b = true then te σ2 H3 fun y H4 => ∃ acc, H4 D = some (.lst acc) ∧ acc.length < sizeLine ∧ Pv D (i + 1) (upd H4 D (.lst (acc ++ [y]))) else Pv D (i + 1) H3) (hd : ∀ D H, H1 D = none → Pv D xs.length H → Qd D H) :
    ((∃ xs, SqL K H1 a xs) ∧ ∀ D, H1 D = none → ∃ W : Nat → Nat → Hp → Prop, (∃ m, W 0 m (upd H1 D (.lst []))) ∧ ∀ i m H, W i m H →
      ((Ite K a).stop i H ∧ Qd D H) ∨ ((Ite K a).go i H ∧ ∃ Nx : Hp → Prop, (∀ H', Nx H' → ∃ m', m' < m ∧ W (i + 1) m' H') ∧ ∀ x H', (Ite K a).yld i H x H' → g x (wipe σ vs) H' fun σ2 H2 => wipe σ2 vs = wipe σ vs ∧ tt σ2 H2 fun b H3 =>
        if b = true then te σ2 H3 fun y H4 => ∃ acc, H4 D = some (.lst acc) ∧ acc.length < sizeLine ∧ Nx (upd H4 D (.lst (acc ++ [y]))) else Nx H3)) ∨
    ((∃ xs, SqT K H1 a xs) ∧ ∀ D, H1 D = none → ∃ W : Nat → Nat → Hp → Prop, (∃ m, W 0 m (upd H1 D (.lst []))) ∧ ∀ i m H, W i m H →
      ((ItT K a).stop i H ∧ Qd D H) ∨ ((ItT K a).go i H ∧ ∃ Nx : Hp → Prop, (∀ H', Nx H' → ∃ m', m' < m ∧ W (i + 1) m' H') ∧ ∀ x H', (ItT K a).yld i H x H' → g x (wipe σ vs) H' fun σ2 H2 => wipe σ2 vs = wipe σ vs ∧ tt σ2 H2 fun b H3 =>
        if b = true then te σ2 H3 fun y H4 => ∃ acc, H4 D = some (.lst acc) ∧ acc.length < sizeLine ∧ Nx (upd H4 D (.lst (acc ++ [y]))) else Nx H3)) := by
  cases tu with
  | false => exact .inl ⟨⟨xs, SqL.of h⟩, fun D nD => lc_it walk_enum (Pv D) (h0 D nD) (fun i H hi p => SqL.of (hl D i H hi nD p)) (fun i x H H' hi p ⟨T, y, z, e0, nT, e3, e1, e2⟩ => by
      subst e0 e3; cases e1; exact hs D i T z H e2 nD p nT) (fun H p => hd D H nD p)⟩
  | true => exact .inr ⟨⟨xs, SqT.of h⟩, fun D nD => lc_it walk_enumT (Pv D) (h0 D nD) (fun i H hi p => SqT.of (hl D i H hi nD p)) (fun i x H H' hi p ⟨T, y, z, e0, nT, e3, e1, e2⟩ => by
      subst e0 e3; cases e1; exact hs D i T z H e2 nD p nT) (fun H p => hd D H nD p)⟩
theorem eqv_dN {t b s d : Int} : PyData.eqv (dN t b) (dN s d) = decide (t = s ∧ b = d) := by
  rw [Bool.eq_iff_iff, decide_eq_true_eq]
  unfold dN
  by_cases hb : b = 1 <;> by_cases hd : d = 1
  · rw [if_pos hb, if_pos hd]
    simp [PyData.eqv]; omega
  · rw [if_pos hb, if_neg hd]
    simp [PyData.eqv]; omega
  · rw [if_neg hb, if_pos hd]
    simp [PyData.eqv]; omega
  · rw [if_neg hb, if_neg hd]
    simp [PyData.eqv, PyData.eqvAll]
theorem div_inj {B x y : Int} (hB : 0 < B) (h1 : ((x : Rat) / (B : Rat)).num = ((y : Rat) / (B : Rat)).num) (h2 : ((((x : Rat) / (B : Rat)).den : Nat) : Int) = ((((y : Rat) / (B : Rat)).den : Nat) : Int)) : x = y := by
  have e1 := num_den (x := x) hB
  have e2 := num_den (x := y) hB
  rw [h1, h2] at e1
  have := e1.symm.trans e2
  exact Int.eq_of_mul_eq_mul_right (by have := ((y : Rat) / (B : Rat)).den_pos; omega) this
theorem q_neB {K : PySem.W.Frag} {H : Hp} {Q : VK} {B : Int} (hB : 0 < B) (bB : Bt 8 B) {v w : V} {p r : PtZ} (h : PlB H B v p) (k : PlB H B w r) (s1 : Sm1 p) (s2 : Sm1 r) (q : Q (.bl (decide (p ≠ r))) H) : rNeD K v w H Q := by
  have g : ∀ {p : PtZ}, Sm1 p → GD (dB B p) 3 6 := fun {p} s => gd_pl ((bq1 hB bB s.1).mono (by decide)) ((bq1 hB bB s.2).mono (by decide))
  refine ⟨dB B p, dB B r, h.pl.dp, k.pl.dp, (g s1).shaped (by decide), (g s2).shaped (by decide), ?_⟩
  have e : PyData.eqv (dB B p) (dB B r) = decide (p = r) := by
    rw [Bool.eq_iff_iff, decide_eq_true_eq]
    unfold dB dP
    simp only [PyData.eqv, PyData.eqvAll, eqv_dN, Bool.and_eq_true, Bool.and_true, decide_eq_true_eq]
    constructor
    · rintro ⟨⟨a, b⟩, c, d⟩
      exact Prod.ext (div_inj hB a b) (div_inj hB c d)
    · rintro rfl
      exact ⟨⟨rfl, rfl⟩, rfl, rfl⟩
  rw [e]
  have e2 : (!decide (p = r)) = decide (p ≠ r) := by simp
  rw [e2]
  exact q
theorem rot1 {α : Type} {xs : List α} {x0 : α} (h0 : xs[0]? = some x0) {i : Nat} (hi : i < xs.length) : (xs.drop 1 ++ [x0])[i]? = xs[(i + 1) % xs.length]? := by
  rcases Nat.lt_or_ge (i + 1) xs.length with h | h
  · rw [Nat.mod_eq_of_lt h, List.getElem?_append_left (by rw [List.length_drop]; omega), List.getElem?_drop, Nat.add_comm]
  · have e : i + 1 = xs.length := by omega
    rw [e, Nat.mod_self, h0, List.getElem?_append_right (by rw [List.length_drop]; omega), List.length_drop, show i - (xs.length - 1) = 0 by omega]
    rfl
theorem rot1t {α : Type} {xs : List α} {i : Nat} (hi : i < xs.length) : (xs.drop 1 ++ xs.take 1)[i]? = xs[(i + 1) % xs.length]? := by
  cases xs with
  | nil => exact absurd hi (Nat.not_lt_zero _)
  | cons x r => exact rot1 (x0 := x) rfl hi
theorem edsOf_len (n : Nat) (ps : List PtZ) : (edsOf n ps).length ≤ ps.length := by
  unfold edsOf kept
  rw [List.length_map, List.length_range]
  have := List.length_filter_le (kpE ps) (List.range ps.length)
  rw [List.length_range] at this
  exact this
theorem edsT_len {pss : List (List PtZ)} (ok : OkP pss) : ∀ k, k ≤ pss.length → (edsT pss k).length ≤ 100 * k
  | 0, _ => Nat.le_refl _
  | k + 1, h => by
    have ih := edsT_len ok k (by omega)
    unfold edsT
    rw [List.length_append, List.getElem?_eq_getElem (show k < pss.length by omega)]
    have h1 := edsOf_len k pss[k]
    have h2 := (ok.all _ (List.getElem_mem (show k < pss.length by omega))).2.1
    show (edsT pss k).length + (edsOf k pss[k]).length ≤ _
    omega
theorem edsT_succ {pss : List (List PtZ)} {k : Nat} (h : k < pss.length) : edsT pss (k + 1) = edsT pss k ++ edsOf k pss[k] := by
  show edsT pss k ++ edsOf k ((pss[k]?).getD []) = _
  rw [List.getElem?_eq_getElem h]; rfl
theorem cross_step {T : Ed → Ed → Bool} {es : List Ed} {i : Nat} {e : Ed} (h : es[i]? = some e) : crossIn T (es.drop i) = match (es.drop (i + 1)).find? (T e) with
    | some f => some ((e.num, e.at_), (f.num, f.at_))
    | none => crossIn T (es.drop (i + 1)) := by
  obtain ⟨hi, rfl⟩ := List.getElem?_eq_some_iff.mp h
  rw [List.drop_eq_getElem_cons hi]
  rfl
theorem find_step {T : Ed → Bool} {l : List Ed} {j : Nat} {f : Ed} (h : l[j]? = some f) : (l.drop j).find? T = if T f = true then some f else (l.drop (j + 1)).find? T := by
  obtain ⟨hi, rfl⟩ := List.getElem?_eq_some_iff.mp h
  rw [List.drop_eq_getElem_cons hi, List.find?_cons]
  cases T l[j] <;> rfl

/-! the law's own edges -/
def LR (H : Hp) (v : V) (e : Ed) : Prop := ∃ t p d, v = .ref t ∧ H t = some (.tup [.int (e.num : Nat), .int (e.at_ : Nat), .ref p, .ref d, .int (e.som : Nat)]) ∧ H p = some (.tup [.int e.P.1, .int e.P.2]) ∧ H d = some (.tup [.int (sub2 e.Q e.P).1, .int (sub2 e.Q e.P).2]) ∧ Bt 24 e.P.1 ∧ Bt 24 e.P.2 ∧ Bt 26 (sub2 e.Q e.P).1 ∧ Bt 26 (sub2 e.Q e.P).2
instance : ImR LR := ⟨fun ⟨t, p, d, e, h1, h2, h3, b⟩ s => ⟨t, p, d, e, s _ _ h1, s _ _ h2, s _ _ h3, b⟩⟩
def spCrsL : Sp := fun vs H Q _ => ∃ (t1 t2 : Addr) (a b : Pz2), vs = [.ref t1, .ref t2] ∧ H t1 = some (.tup [.int a.1, .int a.2]) ∧ H t2 = some (.tup [.int b.1, .int b.2]) ∧ (Bt 100 a.1 ∧ Bt 100 a.2 ∧ Bt 100 b.1 ∧ Bt 100 b.2) ∧ ∀ H', Same H H' → Q (.int (crs a b)) H'
def spAlongL : Sp := fun vs H Q _ => ∃ (t1 t2 t3 : Addr) (s b p : Pz2), vs = [.ref t1, .ref t2, .ref t3] ∧ H t1 = some (.tup [.int s.1, .int s.2]) ∧ H t2 = some (.tup [.int b.1, .int b.2]) ∧ H t3 = some (.tup [.int p.1, .int p.2]) ∧ (Bt 100 s.1 ∧ Bt 100 s.2 ∧ Bt 100 b.1 ∧ Bt 100 b.2 ∧ Bt 100 p.1 ∧ Bt 100 p.2) ∧ ∀ H', Same H H' → Q (.int (dot2 (sub2 p b) s)) H'
def spEL (f : Ed → Ed → Bool) : Sp := fun vs H Q _ => ∃ v w x y, vs = [v, w] ∧ LR H v x ∧ LR H w y ∧ ∀ H', Same H H' → Q (.bl (f x y)) H'
def shX (e f : Ed) : Bool := sharedL e.P (sub2 e.Q e.P) f.P (sub2 f.Q f.P)
def foX (e f : Ed) : Bool := foldL (sub2 e.Q e.P) (sub2 f.Q f.P)
def spEdgesL (K : PySem.W.Frag) : Sp := fun vs H Q _ => ∃ (a : Addr) (pss : List (List PtZ)), vs = [.ref a] ∧ RwZ H a pss ∧ OkP pss ∧ (∀ ps ∈ pss, SmZ 20 ps) ∧ ∀ r H', Same H H' → Li K false LR H' r (eds pss) → Q (.ref r) H'
def spDueL : Sp := fun vs H Q _ => ∃ (a : Addr) (pss : List (List PtZ)), vs = [.ref a] ∧ RwZ H a pss ∧ OkP pss ∧ (∀ ps ∈ pss, SmZ 20 ps) ∧ ∀ v H', Same H H' → crV H' v (crossIn badL (eds pss)) → Q v H'
theorem q_T3 {K : PySem.W.Frag} {H : Hp} {Q : VK} {v : V} {p : Addr} {xs : List V} (h : H p = some (.tup xs)) (e : xs[3]? = some v) (q : Q v H) : rIxT K (.ref p) (.int 3) H Q := q_ixT (j := 3) (SqT.of h) e q
theorem q_T4 {K : PySem.W.Frag} {H : Hp} {Q : VK} {v : V} {p : Addr} {xs : List V} (h : H p = some (.tup xs)) (e : xs[4]? = some v) (q : Q v H) : rIxT K (.ref p) (.int 4) H Q := q_ixT (j := 4) (SqT.of h) e q
theorem q_glst {K : PySem.W.Frag} {n : Nat} {t : TGs} {H : Hp} {σ : L2.St} {a : Addr} {xs : List V} {R : L2.St → Hp → Prop} (h : H a = some (.lst xs)) (hl : xs.length = n) (q : t xs σ H R) : gLst K n t (.ref a) σ H R := ⟨a, xs, rfl, SqL.of h, hl, q⟩
theorem sort2 {a b : Int} {ns : List Int} (hp : ns.Perm [a, b]) (hs : ns.Pairwise (· ≤ ·)) : ns = [min a b, max a b] := by
  match ns, hp.length_eq, hs, hp with
  | [x, y], _, hs, hp =>
    have hxy : x ≤ y := by
      rw [List.pairwise_cons] at hs
      exact hs.1 y (by simp)
    have h1 : x = a ∨ x = b := by simpa using hp.subset (List.mem_cons_self (a := x))
    have h2 : y = a ∨ y = b := by simpa using hp.subset (show y ∈ [x, y] by simp)
    have h3 : a = x ∨ a = y := by simpa using hp.symm.subset (List.mem_cons_self (a := a))
    have h4 : b = x ∨ b = y := by simpa using hp.symm.subset (show b ∈ [a, b] by simp)
    have e1 : x = min a b := by omega
    have e2 : y = max a b := by omega
    rw [e1, e2]
theorem sub0 (d : Pz2) : sub2 d (0, 0) = d := by unfold sub2; exact Prod.ext (Int.sub_zero _) (Int.sub_zero _)
theorem q_neZ {K : PySem.W.Frag} {H : Hp} {Q : VK} {a b : Addr} {p r : Pz2} (h : H a = some (.tup [.int p.1, .int p.2])) (h' : H b = some (.tup [.int r.1, .int r.2])) (q : Q (.bl (decide (r ≠ p))) H) : rNeD K (.ref a) (.ref b) H Q :=
  ⟨.tuple [.int p.1, .int p.2], .tuple [.int r.1, .int r.2], .tup (SqT.of h) (.cons (.int _) (.cons (.int _) .nil)), .tup (SqT.of h') (.cons (.int _) (.cons (.int _) .nil)), rfl, rfl, by
    have e : (!PyData.eqv (.tuple [.int p.1, .int p.2]) (.tuple [.int r.1, .int r.2])) = decide (r ≠ p) := by
      by_cases z : r = p
      · subst z
        rw [SeqAt.eqv_refl _ rfl]
        simp
      · rw [decide_eq_true z]
        refine (Bool.not_eq_true' _).mpr (Bool.eq_false_iff.mpr fun y => z ?_)
        simp [PyData.eqv, PyData.eqvAll] at y
        exact Prod.ext y.1.symm y.2.symm
    rw [e]
    exact q⟩
def cntK (ps : List PtZ) (j : Nat) : Nat := ((List.range j).filter (kpE ps)).length
theorem cntK_succ (ps : List PtZ) (j : Nat) : cntK ps (j + 1) = cntK ps j + (if kpE ps j = true then 1 else 0) := by
  unfold cntK
  rw [List.range_succ, List.filter_append, List.length_append]
  cases k : kpE ps j <;> simp [k]
theorem cntK_le (ps : List PtZ) (j : Nat) : cntK ps j ≤ j := by
  unfold cntK
  have := List.length_filter_le (kpE ps) (List.range j)
  rw [List.length_range] at this
  exact this
theorem kAt_cnt {ps : List PtZ} {j : Nat} (hj : j < ps.length) (k : kpE ps j = true) : kAt ps (cntK ps j) = j := by
  have e : List.range ps.length = List.range j ++ j :: (List.range (ps.length - (j + 1))).map (j + 1 + ·) := by
    rw [show ps.length = (j + 1) + (ps.length - (j + 1)) by omega, List.range_add, List.range_succ, List.append_assoc, show (j + 1) + (ps.length - (j + 1)) - (j + 1) = ps.length - (j + 1) by omega]
    rfl
  unfold kAt kept cntK
  rw [e, List.filter_append, List.filter_cons_of_pos k, List.getElem?_append_right (Nat.le_refl _), Nat.sub_self]
  rfl
theorem call_lenKK {X : Cx} {K : PySem.W.Frag} (h : X.K = K) : CallR X (.builtin "len") (rLenK K) := h ▸ call_lenK
def lcScope : List Stmt → Nat → Scope → Scope
  | [], _, d => d
  | .Assign _ (.ListComp _ _ sc _) _ :: _, 0, _ => sc
  | _ :: _, 0, d => d
  | _ :: r, n + 1, d => lcScope r n d
theorem q_eqI2 {K : PySem.W.Frag} {H : Hp} {Q : VK} {a b : Addr} {i j k l : Int} (h : H a = some (.tup [.int i, .int j])) (h' : H b = some (.tup [.int k, .int l])) (q : Q (.bl (decide (i = k ∧ j = l))) H) : rEqD K (.ref a) (.ref b) H Q :=
  ⟨.tuple [.int i, .int j], .tuple [.int k, .int l], .tup (SqT.of h) (.cons (.int _) (.cons (.int _) .nil)), .tup (SqT.of h') (.cons (.int _) (.cons (.int _) .nil)), rfl, rfl, by
    have e : PyData.eqv (.tuple [.int i, .int j]) (.tuple [.int k, .int l]) = decide (i = k ∧ j = l) := by
      by_cases z : i = k ∧ j = l
      · obtain ⟨rfl, rfl⟩ := z
        rw [decide_eq_true ⟨rfl, rfl⟩]
        exact SeqAt.eqv_refl _ rfl
      · rw [decide_eq_false z]
        refine Bool.eq_false_iff.mpr fun y => z ?_
        simp [PyData.eqv, PyData.eqvAll] at y
        exact ⟨by omega, by omega⟩
    rw [e]
    exact q⟩
def numF (i : Nat) (e : Ed) : Bool := decide (e.num = i)
theorem cnt_edsT {pss : List (List PtZ)} (i : Nat) : ∀ k, ((edsT pss k).filter (numF i)).length = if i < k then (kept ((pss[i]?).getD [])).length else 0
  | 0 => rfl
  | k + 1 => by
    unfold edsT
    rw [List.filter_append, List.length_append, cnt_edsT i k]
    have h : ((edsOf k ((pss[k]?).getD [])).filter (numF i)).length = if k = i then (kept ((pss[i]?).getD [])).length else 0 := by
      unfold edsOf
      rw [List.filter_map, List.length_map]
      by_cases e : k = i
      · subst e
        rw [if_pos rfl, List.filter_eq_self.mpr (fun s _ => by simp [numF, edg]), List.length_range]
      · rw [if_neg e, List.filter_eq_nil_iff.mpr (fun s _ => by simp [numF, edg, e])]
        rfl
    rw [h]
    rcases Nat.lt_trichotomy i k with z | z | z
    · rw [if_pos z, if_neg (by omega), if_pos (by omega)]; rfl
    · subst z; rw [if_neg (by omega), if_pos rfl, if_pos (by omega)]; omega
    · rw [if_neg (by omega), if_neg (by omega), if_neg (by omega)]
theorem many_eds {pss : List (List PtZ)} {e : Ed} (h : e ∈ eds pss) : e.num < pss.length ∧ e.many = ((eds pss).filter (numF e.num)).length := by
  obtain ⟨h1, s, h2, h3⟩ := edsT_num _ e h
  refine ⟨h1, ?_⟩
  unfold eds
  rw [cnt_edsT, if_pos h1, h3]
  rfl
def spRoundL (len0 len1 : Nat) (k : Int) : Sp := fun vs H Q _ => ∃ (bx : Addr) (n : Int), vs = [.ref bx] ∧ Box4 H bx n ∧ n < 900000 ∧ ∀ (r : Addr) (ps : List PtZ) H', Go bx H H' → Box4 H' bx (n + k) → H r = none → r ≠ bx → PrsZ H' r ps → len0 ≤ ps.length → ps.length ≤ len1 → SmZ 10 ps → Q (.ref r) H'
def spSceneL : Sp := fun vs H Q _ => ∃ (bx : Addr) (n : Int), vs = [.ref bx] ∧ Box4 H bx n ∧ n < 800000 ∧ ∀ (r : Addr) (pss : List (List PtZ)) H', Go bx H H' → Box4 H' bx (n + 1000) → r ≠ bx → RwZ H' r pss → OkP pss → (∀ ps ∈ pss, SmZ 20 ps) → Q (.ref r) H'
def refA : V → Addr
  | .ref t => t
  | _ => 0
theorem Li.prs {K : PySem.W.Frag} {H : Hp} {a : Addr} {ps : List PtZ} (h : Li K false PZ H a ps) : PrsZ H a ps := by
  obtain ⟨vs, ha, P⟩ := h
  have ha : H a = some (.lst vs) := ha
  have e : vs = (vs.map refA).map V.ref := by
    rw [List.map_map]
    refine (List.map_id' vs).symm.trans (List.map_congr_left fun v hv => ?_)
    obtain ⟨i, hi, rfl⟩ := List.getElem_of_mem hv
    obtain ⟨x, _, t, e, _⟩ := P.of (List.getElem?_eq_getElem hi)
    rw [e]; rfl
  refine ⟨vs.map refA, by rw [← e]; exact ha, by rw [List.length_map]; exact P.len, fun i p hp => ?_⟩
  obtain ⟨v, e1, t, e2, e3⟩ := P.get i p hp
  exact ⟨t, by rw [List.getElem?_map, e1, e2]; rfl, e3⟩
def P3 (H : Hp) (v : V) (u : Int × Int × Int) : Prop := ∃ t, v = .ref t ∧ H t = some (.tup [.int u.1, .int u.2.1, .int u.2.2])
instance : ImR P3 := ⟨fun ⟨t, e, h⟩ s => ⟨t, e, s _ _ h⟩⟩
def waysL : List PtZ := [(1, 0), (3, 1), (2, 2), (1, 3), (0, 1), (-1, 3), (-2, 2), (-3, 1), (-1, 0), (-3, -1), (-2, -2), (-1, -3), (0, -1), (1, -3), (2, -2), (3, -1)]
theorem ways_sm : SmZ 2 waysL := fun p hp => by
  have h : ∀ p ∈ waysL, p.1.natAbs < 4 ∧ p.2.natAbs < 4 := by decide
  exact ⟨⟨(h p hp).1⟩, ⟨(h p hp).2⟩⟩
theorem SmZ.two {n : Nat} {ps : List PtZ} {p r : PtZ} (h : SmZ n ps) (h1 : Bt n p.1) (h2 : Bt n p.2) (h3 : Bt n r.1) (h4 : Bt n r.2) : SmZ n (ps ++ [p, r]) := fun z hz => by
  rcases List.mem_append.mp hz with e | e
  · exact h z e
  · rcases List.mem_cons.mp e with e | e
    · subst e; exact ⟨h1, h2⟩
    · rw [List.mem_singleton.mp e]; exact ⟨h3, h4⟩
theorem Pz.set {α : Type} {R : V → α → Prop} {vs : List V} {xs : List α} {v : V} {x : α} (h : Pz R vs xs) (k : R v x) (j : Nat) : Pz R (vs.set j v) (xs.set j x) := ⟨by rw [List.length_set, List.length_set, h.len], fun i y e => by
  rw [List.getElem?_set] at e
  by_cases c : j = i
  · subst c
    rw [if_pos rfl] at e
    split at e
    · rename_i hj
      cases e
      exact ⟨v, by rw [List.getElem?_set, if_pos rfl, if_pos (by rw [h.len]; exact hj)], k⟩
    · cases e
  · rw [if_neg c] at e
    obtain ⟨w, e1, e2⟩ := h.get i y e
    exact ⟨w, by rw [List.getElem?_set, if_neg c]; exact e1, e2⟩⟩
theorem Li.setL {K : PySem.W.Frag} {H : Hp} {l : Addr} {ps : List PtZ} {vs : List V} {v : V} {p : PtZ} (hl : H l = some (.lst vs)) (P : Pz (PZ H) vs ps) (e : PZ H v p) (j : Nat) : Li K false PZ (upd H l (.lst (vs.set j v))) l (ps.set j p) :=
  ⟨vs.set j v, upd_same, (P.set e j).im (Im.lst hl)⟩
theorem SmZ.set {n : Nat} {ps : List PtZ} {p : PtZ} (h : SmZ n ps) (h1 : Bt n p.1) (h2 : Bt n p.2) (j : Nat) : SmZ n (ps.set j p) := fun z hz => by
  rcases List.mem_or_eq_of_mem_set hz with e | e
  · exact h z e
  · rw [e]; exact ⟨h1, h2⟩
theorem PrsZ.li {K : PySem.W.Frag} {H : Hp} {a : Addr} {ps : List PtZ} (h : PrsZ H a ps) : Li K false PZ H a ps := by
  obtain ⟨ts, ha, hl, hv⟩ := h.ex
  exact ⟨ts.map V.ref, ha, by rw [List.length_map]; exact hl, fun i p e => let ⟨t, e1, e2⟩ := hv i p e; ⟨.ref t, by rw [List.getElem?_map, e1]; rfl, t, rfl, e2⟩⟩
theorem q_setP {p : Addr} {xs : List V} {i : Nat} {v : V} {H : Hp} {R : Hp → Prop} (h : H p = some (.lst xs)) (hi : i < xs.length) (q : R (upd H p (.lst (xs.set ((i + xs.length - 1) % xs.length) v)))) : rSetL (.ref p) (.int ((i : Int) - 1)) v H R := by
  refine ⟨p, xs, _, (i + xs.length - 1) % xs.length, rfl, rfl, h, ?_, q⟩
  unfold ixN
  rcases Nat.eq_zero_or_pos i with z | z
  · subst z
    rw [if_neg (by omega), if_pos (by omega), Nat.mod_eq_of_lt (by omega)]
    congr 1
    omega
  · rw [if_pos (by omega), if_pos (by omega), show i + xs.length - 1 = (i - 1) + xs.length by omega, Nat.add_mod_right, Nat.mod_eq_of_lt (by omega)]
    congr 1
    omega
theorem SmZ.take {n : Nat} {ps : List PtZ} (h : SmZ n ps) (k : Nat) : SmZ n (ps.take k) := fun z hz => h z (List.mem_of_mem_take hz)
theorem SmZ.drop {n : Nat} {ps : List PtZ} (h : SmZ n ps) (k : Nat) : SmZ n (ps.drop k) := fun z hz => h z (List.mem_of_mem_drop hz)
theorem SmZ.app {n : Nat} {ps qs : List PtZ} (h : SmZ n ps) (k : SmZ n qs) : SmZ n (ps ++ qs) := fun z hz => (List.mem_append.mp hz).elim (h z) (k z)
theorem SmZ.one {n : Nat} {p : PtZ} (h1 : Bt n p.1) (h2 : Bt n p.2) : SmZ n [p] := fun z hz => by rw [List.mem_singleton.mp hz]; exact ⟨h1, h2⟩
theorem SmZ.rev {n : Nat} {ps : List PtZ} (h : SmZ n ps) : SmZ n ps.reverse := fun z hz => h z (List.mem_reverse.mp hz)
theorem Pz.rev {α : Type} {R : V → α → Prop} {vs : List V} {xs : List α} (h : Pz R vs xs) : Pz R vs.reverse xs.reverse := ⟨by rw [List.length_reverse, List.length_reverse, h.len], fun i x e => by
  obtain ⟨hi, _⟩ := List.getElem?_eq_some_iff.mp e
  rw [List.length_reverse] at hi
  rw [List.getElem?_reverse hi] at e
  obtain ⟨v, e1, e2⟩ := h.get _ x e
  exact ⟨v, by rw [List.getElem?_reverse (by rw [h.len]; exact hi), h.len]; exact e1, e2⟩⟩

/-! the law's end -/
def dCr : Option ((Nat × Nat) × (Nat × Nat)) → PyData
  | none => .none
  | some ((a, b), (c, d)) => .tuple [.tuple [.int a, .int b], .tuple [.int c, .int d]]
theorem crV.dp {K : PySem.W.Frag} {H : Hp} {v : V} {o : Option ((Nat × Nat) × (Nat × Nat))} (h : crV H v o) : Dp K H v (dCr o) := by
  cases o with
  | none => cases (show v = .non from h); exact .non
  | some z =>
    obtain ⟨⟨a, b⟩, c, d⟩ := z
    obtain ⟨t, t1, t2, rfl, h0, h1, h2⟩ := h
    exact .tup (SqT.of h0) (.cons (.tup (SqT.of h1) (.cons (.int _) (.cons (.int _) .nil))) (.cons (.tup (SqT.of h2) (.cons (.int _) (.cons (.int _) .nil))) .nil))
theorem crV.im {H H' : Hp} {v : V} {o : Option ((Nat × Nat) × (Nat × Nat))} (h : crV H v o) (s : Im H H') : crV H' v o := by
  cases o with
  | none => exact h
  | some z =>
    obtain ⟨⟨a, b⟩, c, d⟩ := z
    obtain ⟨t, t1, t2, e, h0, h1, h2⟩ := h
    exact ⟨t, t1, t2, e, s _ _ h0, s _ _ h1, s _ _ h2⟩
theorem cross_bd {T : Ed → Ed → Bool} {a b c d : Nat} : ∀ {l : List Ed}, crossIn T l = some ((a, b), (c, d)) → ∃ e ∈ l, ∃ f ∈ l, a = e.num ∧ b = e.at_ ∧ c = f.num ∧ d = f.at_
  | [], h => by cases h
  | x :: r, h => by
    unfold crossIn at h
    cases k : r.find? (T x) with
    | none =>
      rw [k] at h
      obtain ⟨e, he, f, hf, z⟩ := cross_bd h
      exact ⟨e, List.mem_cons_of_mem _ he, f, List.mem_cons_of_mem _ hf, z⟩
    | some f =>
      rw [k] at h
      cases h
      exact ⟨x, List.mem_cons_self, f, List.mem_cons_of_mem _ (List.mem_of_find?_eq_some k), rfl, rfl, rfl, rfl⟩
theorem eds_at {pss : List (List PtZ)} (ok : OkP pss) {e : Ed} (h : e ∈ eds pss) : e.num < 4 ∧ e.at_ < 100 := by
  obtain ⟨h1, s, h2, h3⟩ := edsT_num _ e h
  have l1 := ok.l1
  refine ⟨by omega, ?_⟩
  have e2 : (pss[e.num]?).getD [] = pss[e.num] := by rw [List.getElem?_eq_getElem h1]; rfl
  rw [e2] at h2 h3
  have k := (kAt_mem h2).1
  have := (ok.all _ (List.getElem_mem h1)).2.1
  rw [h3]
  exact Nat.lt_of_lt_of_le k this
theorem gd_dCr {T : Ed → Ed → Bool} {pss : List (List PtZ)} (ok : OkP pss) : GD (dCr (crossIn T (eds pss))) 3 6 := by
  cases k : crossIn T (eds pss) with
  | none => exact gd_non.mono (by decide) (by decide)
  | some z =>
    obtain ⟨⟨a, b⟩, c, d⟩ := z
    obtain ⟨e, he, f, hf, rfl, rfl, rfl, rfl⟩ := cross_bd k
    have b1 := eds_at ok he
    have b2 := eds_at ok hf
    have gi : ∀ {n : Nat}, n < 128 → GD (.int (n : Int)) 1 0 := fun {n} h => gd_int (⟨Nat.lt_of_lt_of_le (show ((n : Nat) : Int).natAbs < 2 ^ 7 by omega) (Nat.pow_le_pow_right (by decide) (by decide))⟩)
    have g2 : ∀ {m n : Nat}, m < 128 → n < 128 → GD (.tuple [.int (m : Int), .int (n : Int)]) 2 2 := fun {m n} h k => gd_tuple fun d hd => by
      rcases List.mem_cons.mp hd with e | e
      · subst e; exact gi h
      · rw [List.mem_singleton.mp e]; exact gi k
    exact gd_tuple fun d hd => by
      rcases List.mem_cons.mp hd with z | z
      · subst z; exact g2 (m := e.num) (n := e.at_) (by omega) (by omega)
      · rw [List.mem_singleton.mp z]; exact g2 (m := f.num) (n := f.at_) (by omega) (by omega)
def hidA (A : Addr) (H : Hp) : Hp := fun b => if b = A then none else H b
theorem hidA_back {A : Addr} {H : Hp} : Same (hidA A H) H := fun b o e => by
  unfold hidA at e
  split at e
  · cases e
  · exact e
theorem hidA_same {A : Addr} {H H' : Hp} (s : Same H H') : Same (hidA A H) (hidA A H') := fun b o e => by
  unfold hidA at e ⊢
  split at e
  · cases e
  · rename_i n; rw [if_neg n]; exact s b o e
theorem hidA_put {A : Addr} {H : Hp} {o : HO} : hidA A (upd H A o) = hidA A H := by
  funext b
  unfold hidA
  split
  · rfl
  · rename_i n; exact upd_ne n
theorem hidA_im {A : Addr} {H : Hp} {zs : List V} (h : H A = some (.lst zs)) : Im H (hidA A H) := fun b xs e => by
  unfold hidA
  rw [if_neg (fun z => by subst z; rw [h] at e; cases e)]
  exact e
structure AR (K : PySem.W.Frag) (A : Addr) (H : Hp) (v : V) (x : Int × List (List PtZ)) : Prop where
  ex : ∃ t F w, v = .ref t ∧ hidA A H t = some (.tup [.ref F, w]) ∧ PolsB false false K (hidA A H) F x.1 x.2 ∧ crV (hidA A H) w (crossIn badL (eds x.2)) ∧ 0 < x.1 ∧ Bt 8 x.1 ∧ OkP x.2
theorem AR.same {K : PySem.W.Frag} {A : Addr} {H H' : Hp} {v : V} {x : Int × List (List PtZ)} (h : AR K A H v x) (s : Same H H') : AR K A H' v x := by
  obtain ⟨t, F, w, e, h1, h2, h3, h4⟩ := h.ex
  have s := hidA_same (A := A) s
  exact ⟨t, F, w, e, s _ _ h1, h2.same s, h3.im (Same.im s), h4⟩
theorem AR.put {K : PySem.W.Frag} {A : Addr} {H : Hp} {o : HO} {v : V} {x : Int × List (List PtZ)} (h : AR K A H v x) : AR K A (upd H A o) v x := by
  obtain ⟨t, F, w, e, h1, h2, h3, h4⟩ := h.ex
  exact ⟨t, F, w, e, by rw [hidA_put]; exact h1, by rw [hidA_put]; exact h2, by rw [hidA_put]; exact h3, h4⟩
theorem AR.open_ {K : PySem.W.Frag} {A : Addr} {H : Hp} {v : V} {x : Int × List (List PtZ)} (h : AR K A H v x) : ∃ t F w, v = .ref t ∧ H t = some (.tup [.ref F, w]) ∧ PolsB false false K H F x.1 x.2 ∧ crV H w (crossIn badL (eds x.2)) ∧ 0 < x.1 ∧ Bt 8 x.1 ∧ OkP x.2 := by
  obtain ⟨t, F, w, e, h1, h2, h3, h4⟩ := h.ex
  exact ⟨t, F, w, e, hidA_back _ _ h1, h2.same hidA_back, h3.im (Same.im hidA_back), h4⟩
def RA2 (K : PySem.W.Frag) (A bx : Addr) (B : Int) (H : Hp) (b : Addr) (ps : List PtZ) : Prop := PolB false K H b B ps ∧ b ≠ A ∧ b ≠ bx
theorem RwA.same {K : PySem.W.Frag} {A bx : Addr} {B : Int} {H H' : Hp} {a : Addr} {pss : List (List PtZ)} (h : RwX (RA2 K A bx B) H a pss) (s : Same H H') : RwX (RA2 K A bx B) H' a pss := RwX.same (R := RA2 K A bx B) (fun _ _ _ _ h s => ⟨PolB.same h.1 s, h.2⟩) h s
theorem hid_at {b a : Addr} {H : Hp} (n : b ≠ a) : hidA a H b = H b := by unfold hidA; rw [if_neg n]
theorem hid2_im {A bx : Addr} {H : Hp} {zs ys : List V} (n : A ≠ bx) (hA : H A = some (.lst zs)) (hb : H bx = some (.lst ys)) : Im H (hidA A (hidA bx H)) :=
  (hidA_im hb).trans (hidA_im (zs := zs) (by rw [hid_at n]; exact hA))
theorem RwA.pols {K : PySem.W.Frag} {A bx : Addr} {B : Int} {H : Hp} {F : Addr} {pss : List (List PtZ)} {zs ys : List V} (h : RwX (RA2 K A bx B) H F pss) (nF : F ≠ A) (nF2 : F ≠ bx) (n : A ≠ bx) (hA : H A = some (.lst zs)) (hb : H bx = some (.lst ys)) : PolsB false false K (hidA A (hidA bx H)) F B pss := by
  obtain ⟨cs, h1, h2, h3⟩ := h.ex
  refine ⟨cs.map V.ref, ?_, by rw [List.length_map]; exact h2, fun i ps e => ?_⟩
  · show hidA A (hidA bx H) F = _
    rw [hid_at nF, hid_at nF2]; exact h1
  · obtain ⟨c, e1, _, P, nc, nc2⟩ := h3 i ps e
    refine ⟨c, by rw [List.getElem?_map, e1]; rfl, ?_⟩
    obtain ⟨vs, q1, q2, q3⟩ := P.ex
    refine ⟨vs, ?_, q2, fun j p ej => let ⟨v, f1, f2⟩ := q3 j p ej; ⟨v, f1, f2.im (hid2_im n hA hb)⟩⟩
    show hidA A (hidA bx H) c = _
    rw [hid_at nc, hid_at nc2]; exact q1
theorem AR.mono {K : PySem.W.Frag} {A : Addr} {H H' : Hp} {v : V} {x : Int × List (List PtZ)} (h : AR K A H v x) (s : Same (hidA A H) (hidA A H')) : AR K A H' v x := by
  obtain ⟨t, F, w, e, h1, h2, h3, h4⟩ := h.ex
  exact ⟨t, F, w, e, s _ _ h1, h2.same s, h3.im (Same.im s), h4⟩
theorem AR.old {K : PySem.W.Frag} {A bx : Addr} {H H' : Hp} {v : V} {x : Int × List (List PtZ)} (h : AR K A H v x) (nb : H bx = none) (s : Same H H') : AR K A (hidA bx H') v x := h.same fun b o e => by
  rw [hid_at (ne_new' e nb)]
  exact s b o e
where ne_new' {H : Hp} {a b : Addr} {o : HO} (h : H a = some o) (n : H b = none) : a ≠ b := fun z => by rw [z, n] at h; cases h
theorem AR.to {K : PySem.W.Frag} {A bx : Addr} {H Hx : Hp} {z : HO} {v : V} {x : Int × List (List PtZ)} (h : AR K A (hidA bx H) v x) (g : Go bx (upd H A z) Hx) : AR K A Hx v x := h.mono fun b o e => by
  unfold hidA at e ⊢
  split at e
  · cases e
  · rename_i n
    split at e
    · cases e
    · rename_i n2
      rw [if_neg n]
      exact g b o (by rw [upd_ne n]; exact e) n2
theorem cutV_mem {xs : List V} {lo hi : Option Int} {v : V} (h : v ∈ cutV xs lo hi) : v ∈ xs := by
  unfold cutV at h
  exact List.mem_of_mem_drop (List.mem_of_mem_take h)
theorem cutV_len (xs : List V) (lo hi : Option Int) : (cutV xs lo hi).length ≤ xs.length := by
  unfold cutV
  rw [List.length_take, List.length_drop]
  omega
theorem mvg_sm {b : PtZ} {g : Int} {ps : List PtZ} (h : SmZ 20 ps) (h1 : Bt 5 b.1) (h2 : Bt 5 b.2) (hg : Bt 4 g) : SmZ 130 (ps.map (mvg b g)) := fun z hz => by
  obtain ⟨p, hp, rfl⟩ := List.mem_map.mp hz
  obtain ⟨s1, s2⟩ := h p hp
  unfold mvg
  exact ⟨((s1.add2 (h1.mono (by decide))).mul hg).mono (by decide), ((s2.add2 (h2.mono (by decide))).mul hg).mono (by decide)⟩
theorem okP_mvg {b : PtZ} {g : Int} {pss : List (List PtZ)} (ok : OkP pss) (h : ∀ ps ∈ pss, SmZ 20 ps) (h1 : Bt 5 b.1) (h2 : Bt 5 b.2) (hg : Bt 4 g) : OkP (pss.map fun ps => ps.map (mvg b g)) :=
  ⟨by rw [List.length_map]; exact ok.l0, by rw [List.length_map]; exact ok.l1, fun qs hq => by
    obtain ⟨ps, hp, rfl⟩ := List.mem_map.mp hq
    obtain ⟨o1, o2, _⟩ := ok.all ps hp
    exact ⟨by rw [List.length_map]; exact o1, by rw [List.length_map]; exact o2, mvg_sm (h ps hp) h1 h2 hg⟩⟩
def stmtsOf : Stmt → List Stmt
  | .For _ _ b _ _ => b
  | _ => []
theorem rwz1 {H : Hp} {L r : Addr} {ps : List PtZ} (h : H L = some (.lst [.ref r])) (n : r ≠ L) (hr : PrsZ H r ps) : RwZ H L [ps] :=
  ⟨[r], h, rfl, fun i q e => by
    match i, e with
    | 0, e => cases e; exact ⟨r, rfl, n, hr⟩⟩
theorem rwz3 {H : Hp} {L r1 r2 r3 : Addr} {p1 p2 p3 : List PtZ} (h : H L = some (.lst [.ref r1, .ref r2, .ref r3])) (n1 : r1 ≠ L) (n2 : r2 ≠ L) (n3 : r3 ≠ L) (h1 : PrsZ H r1 p1) (h2 : PrsZ H r2 p2) (h3 : PrsZ H r3 p3) : RwZ H L [p1, p2, p3] :=
  ⟨[r1, r2, r3], h, rfl, fun i q e => by
    match i, e with
    | 0, e => cases e; exact ⟨r1, rfl, n1, h1⟩
    | 1, e => cases e; exact ⟨r2, rfl, n2, h2⟩
    | 2, e => cases e; exact ⟨r3, rfl, n3, h3⟩⟩
theorem ne_new {H : Hp} {a b : Addr} {o : HO} (h : H a = some o) (n : H b = none) : a ≠ b := fun z => by rw [z, n] at h; cases h
theorem PrsZ.some_ {H : Hp} {a : Addr} {ps : List PtZ} (h : PrsZ H a ps) : ∃ o, H a = some o := let ⟨_, e, _⟩ := h.ex; ⟨_, e⟩
def sqL : List PtZ := [(90, -4), (130, -4), (130, 30), (90, 30)]
theorem sq_sm : SmZ 20 sqL := fun p hp => by
  have h : ∀ p ∈ sqL, p.1.natAbs < 2 ^ 20 ∧ p.2.natAbs < 2 ^ 20 := by decide
  exact ⟨⟨(h p hp).1⟩, ⟨(h p hp).2⟩⟩
theorem okP1 {ps : List PtZ} (l0 : 1 ≤ ps.length) (l1 : ps.length ≤ 100) (sm : SmZ 20 ps) : OkP [ps] := ⟨by simp, by simp, fun q hq => by
  rw [List.mem_singleton.mp hq]; exact ⟨l0, l1, sm.mono (by decide)⟩⟩
theorem okP3 {p1 p2 p3 : List PtZ} (a1 : 1 ≤ p1.length) (a2 : p1.length ≤ 100) (a3 : SmZ 20 p1) (b1 : 1 ≤ p2.length) (b2 : p2.length ≤ 100) (b3 : SmZ 20 p2) (c1 : 1 ≤ p3.length) (c2 : p3.length ≤ 100) (c3 : SmZ 20 p3) : OkP [p1, p2, p3] := ⟨by simp, by simp, fun q hq => by
  simp only [List.mem_cons, List.not_mem_nil, or_false] at hq
  rcases hq with e | e | e <;> subst e
  · exact ⟨a1, a2, a3.mono (by decide)⟩
  · exact ⟨b1, b2, b3.mono (by decide)⟩
  · exact ⟨c1, c2, c3.mono (by decide)⟩⟩
theorem neA1 {K : PySem.W.Frag} {A : Addr} {H : Hp} {ts : List V} {xs : List (Int × List (List PtZ))} (hA : H A = some (.lst ts)) (PA : Pz (AR K A H) ts xs) {c : Addr} {ps : List PtZ} (h : PrsZ H c ps) (l : 1 ≤ ps.length) : c ≠ A := fun z => by
  subst z
  obtain ⟨us, h1, h2, h3⟩ := h.ex
  rw [hA] at h1
  cases h1
  obtain ⟨t, e1, e2⟩ := h3 0 ps[0] (List.getElem?_eq_getElem (by omega))
  obtain ⟨x, _, R⟩ := PA.of (i := 0) (v := .ref t) (by rw [List.getElem?_map, e1]; rfl)
  obtain ⟨t', F, w, e, g1, _⟩ := R.open_
  cases e
  rw [e2] at g1
  cases g1
theorem neA2 {K : PySem.W.Frag} {A : Addr} {H : Hp} {ts : List V} {xs : List (Int × List (List PtZ))} (hA : H A = some (.lst ts)) (PA : Pz (AR K A H) ts xs) {E : Addr} {pss : List (List PtZ)} (h : RwZ H E pss) (l : 1 ≤ pss.length) : E ≠ A := fun z => by
  subst z
  obtain ⟨cs, h1, h2, h3⟩ := h.ex
  rw [hA] at h1
  cases h1
  obtain ⟨c, e1, _, P⟩ := h3 0 pss[0] (List.getElem?_eq_getElem (by omega))
  obtain ⟨x, _, R⟩ := PA.of (i := 0) (v := .ref c) (by rw [List.getElem?_map, e1]; rfl)
  obtain ⟨t', F, w, e, g1, _⟩ := R.open_
  cases e
  obtain ⟨us, f1, _⟩ := P.ex
  rw [f1] at g1
  cases g1
theorem Box4.lst {H : Hp} {bx : Addr} {n : Int} (B : Box4 H bx n) : ∃ ys, H bx = some (.lst ys) := let ⟨_, _, _, _, h, _⟩ := B; ⟨_, h⟩
theorem RwZ.updA {H : Hp} {E A : Addr} {pss : List (List PtZ)} {zs : List V} {o : HO} (h : RwZ H E pss) (nE : E ≠ A) (hA : H A = some (.lst zs)) (nc : ∀ c ps, ps ∈ pss → PrsZ H c ps → c ≠ A) : RwZ (upd H A o) E pss := by
  obtain ⟨cs, h1, h2, h3⟩ := h.ex
  exact ⟨cs, by rw [upd_ne nE]; exact h1, h2, fun i ps e => let ⟨c, e1, e2, P⟩ := h3 i ps e; ⟨c, e1, e2, P.upd (nc c ps (List.mem_of_getElem? e) P) hA⟩⟩
theorem ne_new' {H : Hp} {a b : Addr} {o : HO} (h : H a = some o) (n : H b = none) : a ≠ b := ne_new h n
end HP
namespace HP
/-! ### moved and grown: the same edges cross -/
def smul (g : Int) (d : Pz2) : Pz2 := (g * d.1, g * d.2)
theorem sub_mvg (b : PtZ) (g : Int) (p q : PtZ) : sub2 (mvg b g q) (mvg b g p) = smul g (sub2 q p) := by
  unfold sub2 mvg smul
  refine Prod.ext ?_ ?_ <;> grind
theorem crs_smul (g : Int) (d e : Pz2) : crs (smul g d) (smul g e) = g * g * crs d e := by unfold crs smul; grind
theorem dot_smul (g : Int) (d e : Pz2) : dot2 (smul g d) (smul g e) = g * g * dot2 d e := by unfold dot2 smul; grind
theorem sc0 {G x : Int} (h : 0 < G) : G * x = 0 ↔ x = 0 := ⟨fun z => by rcases Int.mul_eq_zero.mp z with y | y <;> omega, fun z => by rw [z, Int.mul_zero]⟩
theorem scle {G x y : Int} (h : 0 < G) : G * x ≤ G * y ↔ x ≤ y := Int.mul_le_mul_left h
theorem sclt {G x : Int} (h : 0 < G) : G * x < 0 ↔ x < 0 := by
  have := scle (x := 0) (y := x) h
  rw [Int.mul_zero] at this
  omega
theorem scge {G x : Int} (h : 0 < G) : 0 ≤ G * x ↔ 0 ≤ x := by
  have := scle (x := 0) (y := x) h
  rw [Int.mul_zero] at this
  exact this
theorem fold_sc {g : Int} (hg : 0 < g) (d e : Pz2) : foldL (smul g d) (smul g e) = foldL d e := by
  have G := Int.mul_pos hg hg
  unfold foldL
  rw [crs_smul, dot_smul]
  simp only [sc0 G, sclt G]
theorem shared_sc {g : Int} (hg : 0 < g) {P d R e P' R' : Pz2} (h : sub2 R' P' = smul g (sub2 R P)) (h2 : sub2 (R'.1 + (smul g e).1, R'.2 + (smul g e).2) P' = smul g (sub2 (R.1 + e.1, R.2 + e.2) P)) : sharedL P' (smul g d) R' (smul g e) = sharedL P d R e := by
  have G := Int.mul_pos hg hg
  unfold sharedL
  rw [h, h2]
  simp only [crs_smul, dot_smul]
  generalize g * g = G' at G ⊢
  have mn : ∀ a b c : Int, (min (G' * a) (G' * b) ≤ G' * c) ↔ min a b ≤ c := fun a b c => by
    have h1 := scle (x := a) (y := c) G
    have h2 := scle (x := b) (y := c) G
    omega
  have mx : ∀ a b : Int, (0 ≤ max (G' * a) (G' * b)) ↔ 0 ≤ max a b := fun a b => by
    have h1 := scge (x := a) G
    have h2 := scge (x := b) G
    omega
  simp only [ne_eq, sc0 G, sclt G, ← Int.mul_neg, scge G, scle G, mn, mx]
def edM (b : PtZ) (g : Int) (e : Ed) : Ed := { e with P := mvg b g e.P, Q := mvg b g e.Q }
theorem bad_sc {g : Int} (hg : 0 < g) (b : PtZ) (e f : Ed) : badL (edM b g e) (edM b g f) = badL e f := by
  unfold badL
  show (if e.num = f.num ∧ 2 < e.many ∧ f.som = e.som + 1 then foldL (sub2 (mvg b g e.Q) (mvg b g e.P)) (sub2 (mvg b g f.Q) (mvg b g f.P))
    else if e.num = f.num ∧ 2 < e.many ∧ (e.som = 0 ∧ f.som + 1 = e.many) then foldL (sub2 (mvg b g f.Q) (mvg b g f.P)) (sub2 (mvg b g e.Q) (mvg b g e.P))
    else sharedL (mvg b g e.P) (sub2 (mvg b g e.Q) (mvg b g e.P)) (mvg b g f.P) (sub2 (mvg b g f.Q) (mvg b g f.P))) = _
  rw [sub_mvg, sub_mvg, fold_sc hg, fold_sc hg, shared_sc hg (P := e.P) (R := f.P) (sub_mvg b g _ _) ?_]
  unfold sub2 mvg smul
  refine Prod.ext ?_ ?_ <;> grind
theorem cross_map {m : Ed → Ed} (h1 : ∀ e, (m e).num = e.num) (h2 : ∀ e, (m e).at_ = e.at_) (h : ∀ e f, badL (m e) (m f) = badL e f) : ∀ l : List Ed, crossIn badL (l.map m) = crossIn badL l
  | [] => rfl
  | e :: r => by
    have f1 : (r.map m).find? (badL (m e)) = (r.find? (badL e)).map m := by
      rw [List.find?_map]
      congr 1
      congr 1
      funext f
      exact h e f
    rw [List.map_cons]
    unfold crossIn
    rw [f1]
    cases r.find? (badL e) with
    | none => exact cross_map h1 h2 h r
    | some f => simp only [Option.map_some, h1, h2]
section
variable {b : PtZ} {g : Int}
theorem atZ_map {ps : List PtZ} {i : Nat} (h : i < ps.length) : atZ (ps.map (mvg b g)) i = mvg b g (atZ ps i) := by
  rw [atZ_eq (by rw [List.length_map]; exact h), atZ_eq h, List.getElem_map]
theorem mvg_inj (hg : 0 < g) {p q : PtZ} (h : mvg b g p = mvg b g q) : p = q := by
  unfold mvg at h
  have h1 : (p.1 + b.1) * g = (q.1 + b.1) * g := congrArg Prod.fst h
  have h2 : (p.2 + b.2) * g = (q.2 + b.2) * g := congrArg Prod.snd h
  have e1 := Int.eq_of_mul_eq_mul_right (by omega) h1
  have e2 := Int.eq_of_mul_eq_mul_right (by omega) h2
  exact Prod.ext (by omega) (by omega)
theorem nxt_map (ps : List PtZ) (i : Nat) : nxt (ps.map (mvg b g)) i = nxt ps i := by unfold nxt; rw [List.length_map]
theorem kp_map (hg : 0 < g) {ps : List PtZ} {i : Nat} (h : i < ps.length) : kpE (ps.map (mvg b g)) i = kpE ps i := by
  unfold kpE
  have hn : nxt ps i < ps.length := Nat.mod_lt _ (by omega)
  rw [nxt_map, atZ_map h, atZ_map hn]
  refine decide_eq_decide.mpr (not_congr ⟨mvg_inj hg, fun z => by rw [z]⟩)
theorem kept_map (hg : 0 < g) (ps : List PtZ) : kept (ps.map (mvg b g)) = kept ps := by
  unfold kept
  rw [List.length_map]
  exact List.filter_congr fun i hi => kp_map hg (List.mem_range.mp hi)
theorem edsOf_map (hg : 0 < g) (n : Nat) (ps : List PtZ) : edsOf n (ps.map (mvg b g)) = (edsOf n ps).map (edM b g) := by
  unfold edsOf
  rw [kept_map hg, List.map_map]
  refine List.map_congr_left fun s hs => ?_
  have hs := List.mem_range.mp hs
  obtain ⟨h1, _⟩ := kAt_mem hs
  have hn : nxt ps (kAt ps s) < ps.length := Nat.mod_lt _ (by omega)
  have ka : ∀ t, kAt (ps.map (mvg b g)) t = kAt ps t := fun t => by unfold kAt; rw [kept_map hg]
  show edg n (ps.map (mvg b g)) s = edM b g (edg n ps s)
  unfold edg edM
  rw [ka, ka, kept_map hg, nxt_map, atZ_map h1, atZ_map hn]
theorem edsT_map (hg : 0 < g) (pss : List (List PtZ)) : ∀ k, k ≤ pss.length → edsT (pss.map fun ps => ps.map (mvg b g)) k = (edsT pss k).map (edM b g)
  | 0, _ => rfl
  | k + 1, h => by
    unfold edsT
    rw [edsT_map hg pss k (by omega), List.map_append, List.getElem?_map, List.getElem?_eq_getElem (show k < pss.length by omega)]
    show _ ++ edsOf k (pss[k].map (mvg b g)) = _ ++ (edsOf k pss[k]).map (edM b g)
    rw [edsOf_map hg]
theorem cross_mvg (hg : 0 < g) (pss : List (List PtZ)) : crossIn badL (eds (pss.map fun ps => ps.map (mvg b g))) = crossIn badL (eds pss) := by
  unfold eds
  rw [List.length_map, edsT_map hg pss _ (Nat.le_refl _)]
  exact cross_map (m := edM b g) (fun _ => rfl) (fun _ => rfl) (bad_sc hg b) _
end
end HP
namespace HP
open PySem PySem.Spec PyProof.Rows L2
local macro_rules | `(tactic| walk_at "rd1") => `(tactic| first
  | ((with_reducible refine' q_var ?hv ?_); (case hv => exact rfl))
  | (with_reducible refine' q_c ?_)
  | (with_reducible refine' q_op ?_)
  | (with_reducible refine' q_un ?_)
  | (with_reducible refine' q_I0 ?_)
  | (with_reducible refine' q_U ?_)
  | (with_reducible refine' q_bl ?_)
  | (with_reducible refine' iteT ?_)
  | (with_reducible refine' iteF ?_)
  | (with_reducible refine' q_ntT ?_)
  | (with_reducible refine' q_ntF ?_)
  | (with_reducible refine' q_cons ?_)
  | (with_reducible refine' q_nil ?_)
  | (with_reducible refine' q_cb ?_)
  | (with_reducible refine' q_call ?_)
  | (with_reducible refine' q_callK ?_)
  | ((with_reducible refine' q_len ?hl ?_); (case hl => exact rfl))
  | (with_reducible refine' q_seq ?_)
  | (with_reducible refine' q_asg ?_)
  | (with_reducible refine' q_name ?_)
  | (with_reducible refine' q_if ?_)
  | (with_reducible refine' q_ret ?_)
  | (with_reducible refine' q_test ?_)
  | (with_reducible refine' q_B ?_)
  | (with_reducible refine' q_not ?_)
  | (with_reducible refine' q_and ?_)
  | (with_reducible refine' q_or ?_)
  | (with_reducible refine' q_andV ?_)
  | (with_reducible refine' q_orV ?_)
  | (with_reducible refine' q_notV ?_)
  | (with_reducible refine' q_ifE ?_)
  | (with_reducible refine' q_tup ?_)
  | (with_reducible refine' q_lst ?_)
  | (with_reducible refine' q_drop ?_)
  | (with_reducible refine' q_next ?_)
  | (with_reducible refine' q_par ?_)
  | (with_reducible refine' q_two ?_)
  | (with_reducible refine' q_gcons ?_)
  | (with_reducible refine' q_gnil ?_)
  | (with_reducible refine' q_gsub ?_)
  | (with_reducible refine' q_ii ?_)
  | (with_reducible refine' q_ib ?_)
  | (with_reducible refine' q_it ?_)
  | (with_reducible refine' q_gcd ?_)
  | (with_reducible refine' q_abs ?_)
  | (with_reducible refine' q_max ?_)
  | (with_reducible refine' q_min ?_)
  | (with_reducible refine' q_intb ?_)
  | (with_reducible refine' q_inti ?_)
  | (with_reducible refine' q_isint ?_)
  | (with_reducible refine' q_for ?_)
  | (with_reducible refine' q_yes ?_)
  | (with_reducible refine' q_rng ?_)
  | (with_reducible refine' q_ilst ?_)
  | (with_reducible refine' q_cont ?_)
  | (with_reducible refine' q_eqI ?_)
  | ((with_reducible refine' q_L0 ?hq ?hl ?_); (case hq => assumption); (case hl => exact rfl))
  | ((with_reducible refine' q_L1 ?hq ?hl ?_); (case hq => assumption); (case hl => exact rfl))
  | ((with_reducible refine' q_L2 ?hq ?hl ?_); (case hq => assumption); (case hl => exact rfl))
  | ((with_reducible refine' q_T0 ?hq ?hl ?_); (case hq => assumption); (case hl => exact rfl))
  | ((with_reducible refine' q_T1 ?hq ?hl ?_); (case hq => assumption); (case hl => exact rfl))
  | ((with_reducible refine' q_T2 ?hq ?hl ?_); (case hq => assumption); (case hl => exact rfl))
  | ((with_reducible refine' q_eqT ?hq ?hl ?_); (case hq => assumption); (case hl => assumption))
  | ((with_reducible refine' q_disp ?hz ?_); (case hz => exact rfl))
  | ((with_reducible refine' q_gtup ?hq ?hl ?_); (case hq => exact SqT.of (by assumption)); (case hl => exact rfl))
  | ((with_reducible refine' q_tt ?hq ?_); (case hq => assumption))
  | ((with_reducible refine' q_ti ?hq ?_); (case hq => assumption))
  | ((with_reducible refine' q_lenT ?hq ?_); (case hq => exact SqT.of (by assumption)))
  | ((with_reducible refine' q_decT ?hq ?_); (case hq => first | rfl | omega | decide))
  | ((with_reducible refine' q_decF ?hq ?_); (case hq => first | rfl | omega | decide))
  | ((with_reducible refine' q_ndecT ?hq ?_); (case hq => first | rfl | omega | decide))
  | ((with_reducible refine' q_ndecF ?hq ?_); (case hq => first | rfl | omega | decide)))
local macro_rules | `(tactic| walk_at "rd1") => `(tactic| first
  | (with_reducible refine' q_par3 ?_)
  | (with_reducible refine' q_three ?_)
  | (with_reducible refine' q_callX ?_)
  | ((with_reducible refine' q_gtup ?hq ?hl ?_); (case hq => assumption); (case hl => exact rfl))
  | ((with_reducible refine' q_ttS ?hq ?_); (case hq => assumption))
  | ((with_reducible refine' q_tiS ?hq ?_); (case hq => assumption))
  | ((with_reducible refine' q_lenT ?hq ?_); (case hq => assumption))
  | ((with_reducible refine' q_S0 ?hq ?hl ?_); (case hq => assumption); (case hl => exact rfl))
  | ((with_reducible refine' q_S1 ?hq ?hl ?_); (case hq => assumption); (case hl => exact rfl))
  | ((with_reducible refine' q_S2 ?hq ?hl ?_); (case hq => assumption); (case hl => exact rfl)))
local macro_rules | `(tactic| walk_at "rd1") => `(tactic| first
  | (with_reducible refine' q_isintG ?_)
  | (with_reducible refine' q_isNI ?_)
  | (with_reducible refine' q_isNR ?_)
  | (with_reducible refine' q_isNN ?_)
  | (with_reducible refine' q_dnew ?_)
  | (with_reducible refine' q_reprb ?_))
local macro_rules | `(tactic| walk_at "rd") => `(tactic| repeat (walk_at "rd1"))
local macro_rules | `(tactic| walk_at "rx1") => `(tactic| first
  | walk_at "rd1"
  | (with_reducible refine' q_chain ?_)
  | (with_reducible refine' q_lc ?_)
  | (with_reducible refine' q_istr ?_)
  | (with_reducible refine' q_istr1 ?_)
  | (with_reducible refine' q_m1 ?_)
  | (with_reducible refine' q_isS1 ?_)
  | (with_reducible refine' q_sl ?_)
  | (with_reducible refine' q_pn ?_)
  | (with_reducible refine' q_ps ?_)
  | (with_reducible refine' q_ps1 ?_)
  | ((with_reducible refine' q_lenS ?hl ?_); (case hl => omega))
  | ((with_reducible refine' q_bT ?hl ?_); (case hl => first | assumption | rfl))
  | ((with_reducible refine' q_bF ?hl ?_); (case hl => first | assumption | rfl))
  | ((with_reducible refine' q_bnT ?hl ?_); (case hl => first | assumption | rfl))
  | ((with_reducible refine' q_bnF ?hl ?_); (case hl => first | assumption | rfl)))
local macro_rules | `(tactic| walk_at "rx") => `(tactic| repeat (walk_at "rx1"))
local macro_rules | `(tactic| walk_at "rs1") => `(tactic| first
  | (with_reducible refine' q_name ?_)
  | (with_reducible refine' q_seq ?_)
  | (with_reducible refine' q_next ?_))
local macro_rules | `(tactic| walk_at "rs") => `(tactic| repeat (walk_at "rs1"))
local macro_rules | `(tactic| walk_at "rx1") => `(tactic| first
  | (with_reducible refine' q_tpc ?_)
  | (with_reducible refine' q_tpn ?_)
  | (with_reducible refine' q_dsp ?_)
  | (with_reducible refine' q_mkv ?_))
local macro_rules | `(tactic| walk_at "rx1") => `(tactic| first
  | (with_reducible refine' q_js ?_)
  | (with_reducible refine' q_jn ?_)
  | (with_reducible refine' q_fmt ?_))
local macro_rules | `(tactic| walk_at "rx1") => `(tactic| first
  | (with_reducible refine' q_bm ?_)
  | ((with_reducible refine' q_tyL ?hl ?_); (case hl => assumption)))
local macro_rules | `(tactic| walk_at "rs1") => `(tactic| first
  | (with_reducible refine' q_name ?_)
  | (with_reducible refine' q_seq ?_)
  | (with_reducible refine' q_next ?_)
  | (with_reducible refine' q_gcons ?_)
  | (with_reducible refine' q_gnil ?_)
  | ((with_reducible refine' q_gtup ?hq ?hl ?_); (case hq => exact SqT.of (by assumption)); (case hl => exact rfl)))
local macro_rules | `(tactic| walk_at "rx1") => `(tactic| first
  | (with_reducible refine' q_seqI ?_)
  | (with_reducible refine' q_bm0 ?_)
  | (with_reducible refine' q_revL ?_)
  | (with_reducible refine' q_zip ?_))
local macro_rules | `(tactic| walk_at "rx1") => `(tactic| first
  | (with_reducible refine' q_dget ?_))
local macro_rules | `(tactic| walk_at "rx1") => `(tactic| first
  | (with_reducible refine' q_enumS ?_))
local macro_rules | `(tactic| walk_at "rx1") => `(tactic| first
  | (with_reducible refine' q_fld ?_)
  | ((with_reducible refine' q_fldA ?hq ?hc ?hn ?hl ?_); (case hq => assumption); (case hc => assumption); (case hn => assumption); (case hl => exact outF_get _))
  | (with_reducible refine' q_calM ?_)
  | ((with_reducible refine' q_calMA ?hq ?hl ?_); (case hq => assumption); (case hl => exact outF_no _ (by decide +kernel)))
  | (with_reducible refine' q_mkI ?_)
  | (with_reducible refine' q_lc2 ?_)
  | (with_reducible refine' q_zipM ?_)
  | ((with_reducible refine' q_aug ?hv ?_); (case hv => exact rfl))
  | (with_reducible refine' q_rng2 ?_)
  | (with_reducible refine' q_ipA ?_)
  | (with_reducible refine' q_bb ?_)
  | (with_reducible refine' q_star ?_)
  | ((with_reducible refine' q_starL ?hq ?_); (case hq => assumption))
  | (with_reducible refine' q_sfld ?_))
local macro_rules | `(tactic| walk_at "rx1") => `(tactic| first
  | (with_reducible refine' q_fld ?_)
  | ((with_reducible refine' q_fldA ?hq ?hc ?hn ?hl ?_); (case hq => assumption); (case hc => assumption); (case hn => assumption); (case hl => first | exact ed_at | exact ed_follower | exact ed_begin | exact ed_end | exact ed_whole_begin | exact ed_whole_end | exact ed_line | exact ed_box))
  | ((with_reducible refine' q_T3 ?hq ?hl ?_); (case hq => assumption); (case hl => exact rfl))
  | ((with_reducible refine' q_T4 ?hq ?hl ?_); (case hq => assumption); (case hl => exact rfl))
  | ((with_reducible refine' q_glst ?hq ?hl ?_); (case hq => assumption); (case hl => exact rfl))
  | (with_reducible refine' q_revP ?_)
  | (with_reducible refine' q_sfld ?_))
def topS (i : Nat) : Stmt := PySem.Challenge.pw_hintedpoints_k25_first_two_that_cross.main.body.getD i (.Pass ⟨0, 0, 0, 0⟩)
structure Bl (mg : Str → Option Value) : Prop where
  b_isinstance : mg "isinstance" = none
  b_bool : mg "bool" = none
  b_int : mg "int" = none
  b_len : mg "len" = none
  b_tuple : mg "tuple" = none
  b_list : mg "list" = none
  b_gcd : mg "gcd" = some (.builtin "math.gcd")
  b_all : mg "all" = none
  b_MOST_PLACES : ∃ t, mg "MOST_PLACES" = some (.int 100 t)
  b_MOST_POLYGONS : ∃ t, mg "MOST_POLYGONS" = some (.int 4 t)
  b_lcm : mg "lcm" = some (.builtin "math.lcm")
  b_max : mg "max" = none
  b_min : mg "min" = none
  b_zip : mg "zip" = none
  b_enumerate : mg "enumerate" = none
  b_abs : mg "abs" = none
  b_sorted : mg "sorted" = none
  b_range : mg "range" = none
  b_repr : mg "repr" = none
section
variable {P : Program} {w : World} {K : PySem.W.Frag} {mg : Str → Option Value} {base : Heap}

abbrev s_is_int : Stmt := topS 7
theorem sc_is_int : FnScope ["thing"] ["thing"] (defScope s_is_int) := ⟨rfl, rfl, rfl, by decide +kernel, rfl, by decide +kernel, by decide +kernel⟩
theorem fn_is_int {f : Addr} {fd : FuncData} (F : Fun K "is_int" "is_int" s_is_int f fd) (B : Bl mg)  : FnOk P w K mg base CX0 1 f fd ["thing"] (spN 1 spIsInt) := by
  refine fnN F sc_is_int (fun cdv A outer s H vs Q E hr h => ?_)
  obtain ⟨i, rfl, q⟩ := h
  refine ⟨_, (pss_one (ps_ret (pe_and (pe_callB call_isi (by rfl) B.b_isinstance (by decide +kernel) (pa_cons (pv 0) (pa_cons (pe_bltn (v := .ty "int") (by rfl) B.b_int (by decide +kernel) rfl) pa_nil))) (pe_one (pe_not (pe_callB call_isi (by rfl) B.b_isinstance (by decide +kernel) (pa_cons (pv 0) (pa_cons (pe_bltn (v := .ty "bool") (by rfl) B.b_bool (by decide +kernel) rfl) pa_nil)))))))), ?_⟩
  walk_at "rd"
  exact q

abbrev s_is_list : Stmt := topS 8
theorem sc_is_list : FnScope ["thing", "low", "high"] ["thing", "low", "high"] (defScope s_is_list) := ⟨rfl, rfl, rfl, by decide +kernel, rfl, by decide +kernel, by decide +kernel⟩
theorem fn_is_list {f : Addr} {fd : FuncData} (F : Fun K "is_list" "is_list" s_is_list f fd) (B : Bl mg)  : FnOk P w K mg base CX0 1 f fd ["thing", "low", "high"] (spN 3 (spIsList K)) := by
  refine fnN F sc_is_list (fun cdv A outer s H vs Q E hr h => ?_)
  obtain ⟨tu, a, xs, lo, hi, rfl, hq, q⟩ := h
  refine ⟨_, (pss_one (ps_ret (pe_and (pe_callB (id := "isinstance") (call_isiTK (K := K) rfl) (by rfl) B.b_isinstance (by decide +kernel) (pa_cons (pv 0) (pa_cons (pe_tup (pa_cons (pe_bltn (v := .ty "list") (by rfl) B.b_list (by decide +kernel) rfl) (pa_cons (pe_bltn (v := .ty "tuple") (by rfl) B.b_tuple (by decide +kernel) rfl) pa_nil))) pa_nil))) (pe_one (pe_chain op_le op_le (pv 1) (pe_callB call_lenK (by rfl) B.b_len (by decide +kernel) (pa_cons (pv 0) pa_nil)) (pv 2)))))), ?_⟩
  walk_at "rx"
  intro tp ntp
  have S1 := Same.up (H := H) (o := .tup [.ty "list", .ty "tuple"]) ntp
  have hq1 := hq.same S1
  walk_at "rx"
  refine q_isE hq1 upd_same ?_
  generalize upd H tp _ = H1 at S1 hq1 ⊢
  walk_at "rx"
  refine q_lenE hq1 ?_
  have q := q H1 S1
  walk_at "rx"
  refine q_dec (fun e => ?_) (fun e => ?_)
  · rw [decide_eq_true e, Bool.true_and] at q
    walk_at "rx"
    exact q
  · rw [decide_eq_false e, Bool.false_and] at q
    walk_at "rx"
    exact q

abbrev s_is_number : Stmt := topS 9
theorem sc_is_number : FnScope ["thing", "top", "base"] ["thing"] (defScope s_is_number) := ⟨rfl, rfl, rfl, by decide +kernel, rfl, by decide +kernel, by decide +kernel⟩
theorem fn_is_number {f : Addr} {fd : FuncData} (F : Fun K "is_number" "is_number" s_is_number f fd) (B : Bl mg) (c_is_int : Cal P w K mg base 1 "is_int" ["thing"] spIsInt) : FnOk P w K mg base CX0 2 f fd ["thing"] (spN 1 spIsNum) := by
  refine fnN F sc_is_number (fun cdv A outer s H vs Q E hr h => ?_)
  obtain ⟨v, t, b, rfl, N, q⟩ := h
  refine ⟨_, (pss_cons (ps_if (pt_not (pt_val (pe_callB call_isi (by rfl) B.b_isinstance (by decide +kernel) (pa_cons (pv 0) (pa_cons (pe_bltn (v := .ty "tuple") (by rfl) B.b_tuple (by decide +kernel) rfl) pa_nil))))) (pss_one (ps_ret (pe_cal c_is_int hr (by decide) (by rfl) (pa_cons (pv 0) pa_nil)))) pss_nil)
      (pss_cons (ps_if (pt_cmpR op_neI (pe_callB call_lenK (by rfl) B.b_len (by decide +kernel) (pa_cons (pv 0) pa_nil)) pe_int (nomark _)) (pss_one (ps_ret pe_bl)) pss_nil)
      (pss_cons (ps_asg (pv 0) (pg_tup (by rfl) (pgs_cons (pg_name (i := 1) sc_is_number.nd rfl (.inl rfl)) (pgs_cons (pg_name (i := 2) sc_is_number.nd rfl (.inl rfl)) pgs_nil))))
      (pss_one (ps_ret (pe_and (pe_cal c_is_int hr (by decide) (by rfl) (pa_cons (pv 1) pa_nil)) (pe_and (pe_cal c_is_int hr (by decide) (by rfl) (pa_cons (pv 2) pa_nil)) (pe_and (pe_cmpR op_ge (pv 2) pe_int (nomark _)) (pe_one (pe_cmpR op_eqI (pe_callBfun cr_gcd (by rfl) B.b_gcd (pa_cons (pv 1) (pa_cons (pv 2) pa_nil))) pe_int (nomark _))))))))))), ?_⟩
  rcases N with ⟨rfl, rfl⟩ | ⟨a, rfl, ha, hb, hc⟩
  · walk_at "rd"
    exact q
  · walk_at "rd"
    have e : ((Nat.gcd t.natAbs b.natAbs : Nat) : Int) = 1 := by
      rw [show Nat.gcd t.natAbs b.natAbs = 1 from hc]
      rfl
    rw [decide_eq_true e]
    exact q

abbrev s_need_number : Stmt := topS 10
theorem sc_need_number : FnScope ["thing"] ["thing"] (defScope s_need_number) := ⟨rfl, rfl, rfl, by decide +kernel, rfl, by decide +kernel, by decide +kernel⟩
theorem fn_need_number {f : Addr} {fd : FuncData} (F : Fun K "need_number" "need_number" s_need_number f fd) (B : Bl mg) (c_is_number : Cal P w K mg base 2 "is_number" ["thing"] spIsNum) : FnOk P w K mg base CX0 3 f fd ["thing"] (spN 1 spNeed) := by
  refine fnN F sc_need_number (fun cdv A outer s H vs Q E hr h => ?_)
  obtain ⟨v, t, b, rfl, N, q⟩ := h
  refine ⟨_, (pss_one (ps_if (pt_not (pt_val (pe_cal c_is_number hr (by decide) (by rfl) (pa_cons (pv 0) pa_nil)))) (pss_one ps_never) pss_nil)), ?_⟩
  walk_at "rd"
  refine ⟨v, t, b, rfl, N, ?_⟩
  walk_at "rd"
  exact q

abbrev s_pair_of : Stmt := topS 11
theorem sc_pair_of : FnScope ["number"] ["number"] (defScope s_pair_of) := ⟨rfl, rfl, rfl, by decide +kernel, rfl, by decide +kernel, by decide +kernel⟩
theorem fn_pair_of {f : Addr} {fd : FuncData} (F : Fun K "pair_of" "pair_of" s_pair_of f fd) (B : Bl mg)  : FnOk P w K mg base CX0 1 f fd ["number"] (spN 1 spPair) := by
  refine fnN F sc_pair_of (fun cdv A outer s H vs Q E hr h => ?_)
  obtain ⟨v, t, b, rfl, N, q⟩ := h
  refine ⟨_, (pss_cons (ps_if (pt_val (pe_callB call_isi (by rfl) B.b_isinstance (by decide +kernel) (pa_cons (pv 0) (pa_cons (pe_bltn (v := .ty "tuple") (by rfl) B.b_tuple (by decide +kernel) rfl) pa_nil)))) (pss_one (ps_ret (pv 0))) pss_nil)
      (pss_one (ps_ret (pe_tup (pa_cons (pv 0) (pa_cons pe_int pa_nil)))))), ?_⟩
  rcases N with ⟨rfl, rfl⟩ | ⟨a, rfl, ha, hb, hc⟩
  · walk_at "rd"
    exact fun p np => q p _ (Same.up np) upd_same
  · walk_at "rd"
    exact q a H (Same.refl H) ha

abbrev s_lowest : Stmt := topS 12
theorem sc_lowest : FnScope ["top", "base", "shared"] ["top", "base"] (defScope s_lowest) := ⟨rfl, rfl, rfl, by decide +kernel, rfl, by decide +kernel, by decide +kernel⟩
theorem fn_lowest {f : Addr} {fd : FuncData} (F : Fun K "lowest" "lowest" s_lowest f fd) (B : Bl mg)  : FnOk P w K mg base CX0 1 f fd ["top", "base"] (spN 2 spLow) := by
  refine fnN F sc_lowest (fun cdv A outer s H vs Q E hr h => ?_)
  obtain ⟨t, b, rfl, hb, B1, B2, q⟩ := h
  refine ⟨_, (pss_cons (ps_set (i := 2) sc_lowest.nd rfl (.inl rfl) (pe_callBfun cr_gcd (by rfl) B.b_gcd (pa_cons (pv 0) (pa_cons (pv 1) pa_nil))))
      (pss_cons (ps_if (pt_cmpR op_lt (pv 1) pe_int (nomark _)) (pss_one (ps_set (i := 2) sc_lowest.nd rfl (.inl rfl) (pe_un un_neg (pv 2)))) pss_nil)
      (pss_cons (ps_if (pt_cmpR op_eqI (pv 1) (pv 2) (nomark _)) (pss_one (ps_ret (pe_op op_fdivA (pv 0) (pv 2)))) pss_nil)
      (pss_one (ps_ret (pe_tup (pa_cons (pe_op op_fdivA (pv 0) (pv 2)) (pa_cons (pe_op op_fdivA (pv 1) (pv 2)) pa_nil)))))))), ?_⟩
  obtain ⟨t', b', C⟩ := cut_of (t := t) hb
  walk_at "rd"
  refine q_dec (fun e0 => ?_) (fun e0 => ?_)
  · have es : gsg t b = -((Nat.gcd t.natAbs b.natAbs : Nat) : Int) := by
      unfold gsg
      rw [if_pos e0]
    rw [es] at C
    have dv := divA (i := t) C.ns (B2.le C.ss) (by decide)
    have dv2 := divA (i := b) C.ns (B2.le C.ss) (by decide)
    walk_at "rd"
    refine q_dec (fun e => ?_) (fun e => ?_)
    · walk_at "rd"
      refine q_I dv ?_
      rw [C.ft]
      refine q _ _ _ _ (Same.refl H) (.inl ⟨rfl, C.one.mp e⟩) C.low
    · walk_at "rd"
      refine q_I dv ?_
      walk_at "rd"
      refine q_I dv2 ?_
      walk_at "rd"
      intro p np
      rw [C.ft, C.fb]
      have h1 : b' ≠ 1 := fun z => e (C.one.mpr z)
      have h2 := C.p
      exact q _ _ _ _ (Same.up np) (.inr ⟨p, rfl, upd_same, by omega, C.c⟩) C.low
  · have es : gsg t b = ((Nat.gcd t.natAbs b.natAbs : Nat) : Int) := by
      unfold gsg
      rw [if_neg e0]
    rw [es] at C
    have dv := divA (i := t) C.ns (B2.le C.ss) (by decide)
    have dv2 := divA (i := b) C.ns (B2.le C.ss) (by decide)
    walk_at "rd"
    refine q_dec (fun e => ?_) (fun e => ?_)
    · walk_at "rd"
      refine q_I dv ?_
      rw [C.ft]
      refine q _ _ _ _ (Same.refl H) (.inl ⟨rfl, C.one.mp e⟩) C.low
    · walk_at "rd"
      refine q_I dv ?_
      walk_at "rd"
      refine q_I dv2 ?_
      walk_at "rd"
      intro p np
      rw [C.ft, C.fb]
      have h1 : b' ≠ 1 := fun z => e (C.one.mpr z)
      have h2 := C.p
      exact q _ _ _ _ (Same.up np) (.inr ⟨p, rfl, upd_same, by omega, C.c⟩) C.low

abbrev s__added : Stmt := topS 13
theorem sc__added : FnScope ["one", "other", "top", "base", "other_top", "other_base", "shared", "common"] ["one", "other"] (defScope s__added) := ⟨rfl, rfl, rfl, by decide +kernel, rfl, by decide +kernel, by decide +kernel⟩
theorem fn__added {f : Addr} {fd : FuncData} (F : Fun K "_added" "_added" s__added f fd) (B : Bl mg) (c_pair_of : Cal P w K mg base 1 "pair_of" ["number"] spPair) : FnOk P w K mg base CX0 2 f fd ["one", "other"] (spN 2 spAdd) := by
  refine fnN F sc__added (fun cdv A outer s H vs Q E hr h => ?_)
  obtain ⟨x, y, t, b, s0, d, rfl, N1, N2, B1, B2, B3, B4, q⟩ := h
  refine ⟨_, (pss_cons (ps_asg (pe_cal c_pair_of hr (by decide) (by rfl) (pa_cons (pv 0) pa_nil)) (pg_tup (by rfl) (pgs_cons (pg_name (i := 2) sc__added.nd rfl (.inl rfl)) (pgs_cons (pg_name (i := 3) sc__added.nd rfl (.inl rfl)) pgs_nil))))
      (pss_cons (ps_asg (pe_cal c_pair_of hr (by decide) (by rfl) (pa_cons (pv 1) pa_nil)) (pg_tup (by rfl) (pgs_cons (pg_name (i := 4) sc__added.nd rfl (.inl rfl)) (pgs_cons (pg_name (i := 5) sc__added.nd rfl (.inl rfl)) pgs_nil))))
      (pss_cons (ps_set (i := 6) sc__added.nd rfl (.inl rfl) (pe_callBfun cr_gcd (by rfl) B.b_gcd (pa_cons (pv 3) (pa_cons (pv 5) pa_nil))))
      (pss_cons (ps_set (i := 2) sc__added.nd rfl (.inl rfl) (pe_op op_add (pe_op op_mulW (pv 2) (pe_op op_fdivA (pv 5) (pv 6))) (pe_op op_mulW (pv 4) (pe_op op_fdivA (pv 3) (pv 6)))))
      (pss_cons (ps_set (i := 7) sc__added.nd rfl (.inl rfl) (pe_callBfun cr_gcd (by rfl) B.b_gcd (pa_cons (pv 2) (pa_cons (pv 6) pa_nil))))
      (pss_cons (ps_set (i := 2) sc__added.nd rfl (.inl rfl) (pe_op op_fdivA (pv 2) (pv 7)))
      (pss_cons (ps_set (i := 3) sc__added.nd rfl (.inl rfl) (pe_op op_mulW (pe_op op_fdivA (pv 3) (pv 6)) (pe_op op_fdivA (pv 5) (pv 7))))
      (pss_cons (ps_if (pt_cmpR op_eqI (pv 3) pe_int (nomark _)) (pss_one (ps_ret (pv 2))) pss_nil)
      (pss_one (ps_ret (pe_tup (pa_cons (pv 2) (pa_cons (pv 3) pa_nil))))))))))))), ?_⟩
  walk_at "rd"
  refine ⟨x, t, b, rfl, N1, fun p H1 S1 hp => ?_⟩
  walk_at "rd"
  refine ⟨y, s0, d, rfl, N2.same S1, fun p2 H2 S2 hp2 => ?_⟩
  walk_at "rd"
  have M := add_math N1.pos N2.pos N1.cop N2.cop
  have Bg : Bt 2000 ((Nat.gcd b.natAbs d.natAbs : Nat) : Int) := B2.le M.gb
  have Bc := Bg.le M.cg
  have gn := M.g0
  have cn := M.c0
  have Bdg : Bt 2000 (d.fdiv ((Nat.gcd b.natAbs d.natAbs : Nat) : Int)) := B4.le (fdiv_abs M.g0)
  have Bbg : Bt 2000 (b.fdiv ((Nat.gcd b.natAbs d.natAbs : Nat) : Int)) := B2.le (fdiv_abs M.g0)
  generalize ((Nat.gcd b.natAbs d.natAbs : Nat) : Int) = g at *
  refine q_I (divA (by omega) Bg (by decide)) ?_
  walk_at "rd"
  refine q_I (mulW B1 Bdg (by decide)) ?_
  walk_at "rd"
  refine q_I (divA (by omega) Bg (by decide)) ?_
  walk_at "rd"
  refine q_I (mulW B3 Bbg (by decide)) ?_
  walk_at "rd"
  generalize ((Nat.gcd (t * d.fdiv g + s0 * b.fdiv g).natAbs g.natAbs : Nat) : Int) = c at *
  refine q_I (divA (by omega) Bc (by decide)) ?_
  walk_at "rd"
  refine q_I (divA (by omega) Bg (by decide)) ?_
  walk_at "rd"
  refine q_I (divA (by omega) Bc (by decide)) ?_
  walk_at "rd"
  refine q_I (mulW Bbg (B4.le (fdiv_abs M.c0)) (by decide)) ?_
  walk_at "rd"
  have hbd : b * d ≠ 0 := Int.mul_ne_zero (by have := N1.pos; omega) (by have := N2.pos; omega)
  have L := low_of hbd M.p M.cp M.eq
  refine q_dec (fun e => ?_) (fun e => ?_)
  · walk_at "rd"
    exact q _ _ _ _ (S1.trans S2) (.inl ⟨rfl, e⟩) L
  · walk_at "rd"
    intro p3 np
    have := M.p
    exact q _ _ _ _ ((S1.trans S2).trans (Same.up np)) (.inr ⟨p3, rfl, upd_same, by omega, M.cp⟩) L

abbrev s__negated : Stmt := topS 14
theorem sc__negated : FnScope ["number", "top", "base"] ["number"] (defScope s__negated) := ⟨rfl, rfl, rfl, by decide +kernel, rfl, by decide +kernel, by decide +kernel⟩
theorem fn__negated {f : Addr} {fd : FuncData} (F : Fun K "_negated" "_negated" s__negated f fd) (B : Bl mg) (c_pair_of : Cal P w K mg base 1 "pair_of" ["number"] spPair) : FnOk P w K mg base CX0 2 f fd ["number"] (spN 1 spNeg) := by
  refine fnN F sc__negated (fun cdv A outer s H vs Q E hr h => ?_)
  obtain ⟨v, t, b, rfl, N, q⟩ := h
  refine ⟨_, (pss_cons (ps_asg (pe_cal c_pair_of hr (by decide) (by rfl) (pa_cons (pv 0) pa_nil)) (pg_tup (by rfl) (pgs_cons (pg_name (i := 1) sc__negated.nd rfl (.inl rfl)) (pgs_cons (pg_name (i := 2) sc__negated.nd rfl (.inl rfl)) pgs_nil))))
      (pss_cons (ps_if (pt_cmpR op_eqI (pv 2) pe_int (nomark _)) (pss_one (ps_ret (pe_un un_neg (pv 1)))) pss_nil)
      (pss_one (ps_ret (pe_tup (pa_cons (pe_un un_neg (pv 1)) (pa_cons (pv 2) pa_nil))))))), ?_⟩
  walk_at "rd"
  refine ⟨v, t, b, rfl, N, fun p H1 S1 hp => ?_⟩
  walk_at "rd"
  refine q_dec (fun e => ?_) (fun e => ?_)
  · walk_at "rd"
    subst e
    exact q _ _ S1 (.inl ⟨rfl, rfl⟩)
  · walk_at "rd"
    intro p2 np
    have := N.pos
    have hc : cop (-t) b := by
      unfold cop
      rw [Int.natAbs_neg]
      exact N.cop
    exact q _ _ (S1.trans (Same.up np)) (.inr ⟨p2, rfl, upd_same, by omega, hc⟩)

abbrev s__is_less : Stmt := topS 15
theorem sc__is_less : FnScope ["one", "other", "top", "base", "other_top", "other_base"] ["one", "other"] (defScope s__is_less) := ⟨rfl, rfl, rfl, by decide +kernel, rfl, by decide +kernel, by decide +kernel⟩
theorem fn__is_less {f : Addr} {fd : FuncData} (F : Fun K "_is_less" "_is_less" s__is_less f fd) (B : Bl mg) (c_pair_of : Cal P w K mg base 1 "pair_of" ["number"] spPair) : FnOk P w K mg base CX0 2 f fd ["one", "other"] (spN 2 spLess) := by
  refine fnN F sc__is_less (fun cdv A outer s H vs Q E hr h => ?_)
  obtain ⟨x, y, t, b, s0, d, rfl, N1, N2, B1, B2, B3, B4, q⟩ := h
  refine ⟨_, (pss_cons (ps_asg (pe_cal c_pair_of hr (by decide) (by rfl) (pa_cons (pv 0) pa_nil)) (pg_tup (by rfl) (pgs_cons (pg_name (i := 2) sc__is_less.nd rfl (.inl rfl)) (pgs_cons (pg_name (i := 3) sc__is_less.nd rfl (.inl rfl)) pgs_nil))))
      (pss_cons (ps_asg (pe_cal c_pair_of hr (by decide) (by rfl) (pa_cons (pv 1) pa_nil)) (pg_tup (by rfl) (pgs_cons (pg_name (i := 4) sc__is_less.nd rfl (.inl rfl)) (pgs_cons (pg_name (i := 5) sc__is_less.nd rfl (.inl rfl)) pgs_nil))))
      (pss_one (ps_ret (pe_cmpR op_lt (pe_op op_mulW (pv 2) (pv 5)) (pe_op op_mulW (pv 4) (pv 3)) (nomark _)))))), ?_⟩
  walk_at "rd"
  refine ⟨x, t, b, rfl, N1, fun p H1 S1 hp => ?_⟩
  walk_at "rd"
  refine ⟨y, s0, d, rfl, N2.same S1, fun p2 H2 S2 hp2 => ?_⟩
  walk_at "rd"
  refine q_I (mulW B1 B4 (by decide)) ?_
  walk_at "rd"
  refine q_I (mulW B3 B2 (by decide)) ?_
  walk_at "rd"
  exact q H2 (S1.trans S2)

abbrev s_plus : Stmt := topS 16
theorem sc_plus : FnScope ["one", "other"] ["one", "other"] (defScope s_plus) := ⟨rfl, rfl, rfl, by decide +kernel, rfl, by decide +kernel, by decide +kernel⟩
theorem fn_plus {f : Addr} {fd : FuncData} (F : Fun K "plus" "plus" s_plus f fd) (B : Bl mg) (c__added : Cal P w K mg base 2 "_added" ["one", "other"] spAdd) (c_need_number : Cal P w K mg base 3 "need_number" ["thing"] spNeed) : FnOk P w K mg base CX0 4 f fd ["one", "other"] (spN 2 spAdd) := by
  refine fnN F sc_plus (fun cdv A outer s H vs Q E hr h => ?_)
  obtain ⟨x, y, t, b, s0, d, rfl, N1, N2, B1, B2, B3, B4, q⟩ := h
  refine ⟨_, (pss_cons (ps_expr (pe_cal c_need_number hr (by decide) (by rfl) (pa_cons (pv 0) pa_nil)))
      (pss_cons (ps_expr (pe_cal c_need_number hr (by decide) (by rfl) (pa_cons (pv 1) pa_nil)))
      (pss_one (ps_ret (pe_cal c__added hr (by decide) (by rfl) (pa_cons (pv 0) (pa_cons (pv 1) pa_nil))))))), ?_⟩
  walk_at "rd"
  refine ⟨x, t, b, rfl, N1, ?_⟩
  walk_at "rd"
  refine ⟨y, s0, d, rfl, N2, ?_⟩
  walk_at "rd"

  exact ⟨x, y, t, b, s0, d, rfl, N1, N2, B1, B2, B3, B4, q⟩

abbrev s_minus : Stmt := topS 17
theorem sc_minus : FnScope ["one", "other"] ["one", "other"] (defScope s_minus) := ⟨rfl, rfl, rfl, by decide +kernel, rfl, by decide +kernel, by decide +kernel⟩
theorem fn_minus {f : Addr} {fd : FuncData} (F : Fun K "minus" "minus" s_minus f fd) (B : Bl mg) (c__added : Cal P w K mg base 2 "_added" ["one", "other"] spAdd) (c__negated : Cal P w K mg base 2 "_negated" ["number"] spNeg) (c_need_number : Cal P w K mg base 3 "need_number" ["thing"] spNeed) : FnOk P w K mg base CX0 4 f fd ["one", "other"] (spN 2 spSub) := by
  refine fnN F sc_minus (fun cdv A outer s H vs Q E hr h => ?_)
  obtain ⟨x, y, t, b, s0, d, rfl, N1, N2, B1, B2, B3, B4, q⟩ := h
  refine ⟨_, (pss_cons (ps_expr (pe_cal c_need_number hr (by decide) (by rfl) (pa_cons (pv 0) pa_nil)))
      (pss_cons (ps_expr (pe_cal c_need_number hr (by decide) (by rfl) (pa_cons (pv 1) pa_nil)))
      (pss_one (ps_ret (pe_cal c__added hr (by decide) (by rfl) (pa_cons (pv 0) (pa_cons (pe_cal c__negated hr (by decide) (by rfl) (pa_cons (pv 1) pa_nil)) pa_nil))))))), ?_⟩
  walk_at "rd"
  refine ⟨x, t, b, rfl, N1, ?_⟩
  walk_at "rd"
  refine ⟨y, s0, d, rfl, N2, ?_⟩
  walk_at "rd"

  refine ⟨y, s0, d, rfl, N2, fun y' H1 S1 N3 => ?_⟩
  walk_at "rd"
  refine ⟨x, y', t, b, -s0, d, rfl, N1.same S1, N3, B1, B2, B3.neg, B4, fun v H2 t' b' S2 N L => ?_⟩
  rw [Int.neg_mul, ← Int.sub_eq_add_neg] at L
  exact q v H2 t' b' (S1.trans S2) N L

abbrev s_times : Stmt := topS 18
theorem sc_times : FnScope ["one", "other", "top", "base", "other_top", "other_base"] ["one", "other"] (defScope s_times) := ⟨rfl, rfl, rfl, by decide +kernel, rfl, by decide +kernel, by decide +kernel⟩
theorem fn_times {f : Addr} {fd : FuncData} (F : Fun K "times" "times" s_times f fd) (B : Bl mg) (c_lowest : Cal P w K mg base 1 "lowest" ["top", "base"] spLow) (c_pair_of : Cal P w K mg base 1 "pair_of" ["number"] spPair) (c_need_number : Cal P w K mg base 3 "need_number" ["thing"] spNeed) : FnOk P w K mg base CX0 4 f fd ["one", "other"] (spN 2 spMul) := by
  refine fnN F sc_times (fun cdv A outer s H vs Q E hr h => ?_)
  obtain ⟨x, y, t, b, s0, d, rfl, N1, N2, B1, B2, B3, B4, q⟩ := h
  refine ⟨_, (pss_cons (ps_expr (pe_cal c_need_number hr (by decide) (by rfl) (pa_cons (pv 0) pa_nil)))
      (pss_cons (ps_expr (pe_cal c_need_number hr (by decide) (by rfl) (pa_cons (pv 1) pa_nil)))
      (pss_cons (ps_asg (pe_cal c_pair_of hr (by decide) (by rfl) (pa_cons (pv 0) pa_nil)) (pg_tup (by rfl) (pgs_cons (pg_name (i := 2) sc_times.nd rfl (.inl rfl)) (pgs_cons (pg_name (i := 3) sc_times.nd rfl (.inl rfl)) pgs_nil))))
      (pss_cons (ps_asg (pe_cal c_pair_of hr (by decide) (by rfl) (pa_cons (pv 1) pa_nil)) (pg_tup (by rfl) (pgs_cons (pg_name (i := 4) sc_times.nd rfl (.inl rfl)) (pgs_cons (pg_name (i := 5) sc_times.nd rfl (.inl rfl)) pgs_nil))))
      (pss_one (ps_ret (pe_cal c_lowest hr (by decide) (by rfl) (pa_cons (pe_op op_mulW (pv 2) (pv 4)) (pa_cons (pe_op op_mulW (pv 3) (pv 5)) pa_nil))))))))), ?_⟩
  walk_at "rd"
  refine ⟨x, t, b, rfl, N1, ?_⟩
  walk_at "rd"
  refine ⟨y, s0, d, rfl, N2, ?_⟩
  walk_at "rd"

  refine ⟨x, t, b, rfl, N1, fun p H1 S1 hp => ?_⟩
  walk_at "rd"
  refine ⟨y, s0, d, rfl, N2.same S1, fun p2 H2 S2 hp2 => ?_⟩
  walk_at "rd"
  refine q_I (mulW B1 B3 (by decide)) ?_
  walk_at "rd"
  refine q_I (mulW B2 B4 (by decide)) ?_
  walk_at "rd"
  have hbd : b * d ≠ 0 := Int.mul_ne_zero (by have := N1.pos; omega) (by have := N2.pos; omega)
  exact ⟨_, _, rfl, hbd, (B1.mul B3).mono (by decide), (B2.mul B4).mono (by decide), fun v H3 t' b' S3 N L => q v H3 t' b' ((S1.trans S2).trans S3) N L⟩

abbrev s_sign_of : Stmt := topS 19
theorem sc_sign_of : FnScope ["number", "top", "_"] ["number"] (defScope s_sign_of) := ⟨rfl, rfl, rfl, by decide +kernel, rfl, by decide +kernel, by decide +kernel⟩
theorem fn_sign_of {f : Addr} {fd : FuncData} (F : Fun K "sign_of" "sign_of" s_sign_of f fd) (B : Bl mg) (c_pair_of : Cal P w K mg base 1 "pair_of" ["number"] spPair) (c_need_number : Cal P w K mg base 3 "need_number" ["thing"] spNeed) : FnOk P w K mg base CX0 4 f fd ["number"] (spN 1 spSign) := by
  refine fnN F sc_sign_of (fun cdv A outer s H vs Q E hr h => ?_)
  obtain ⟨v, t, b, rfl, N, q⟩ := h
  refine ⟨_, (pss_cons (ps_expr (pe_cal c_need_number hr (by decide) (by rfl) (pa_cons (pv 0) pa_nil)))
      (pss_cons (ps_asg (pe_cal c_pair_of hr (by decide) (by rfl) (pa_cons (pv 0) pa_nil)) (pg_tup (by rfl) (pgs_cons (pg_name (i := 1) sc_sign_of.nd rfl (.inl rfl)) (pgs_cons (pg_name (i := 2) sc_sign_of.nd rfl (.inl rfl)) pgs_nil))))
      (pss_cons (ps_if (pt_cmpR op_lt (pv 1) pe_int (nomark _)) (pss_one (ps_ret (pe_un un_neg pe_int))) pss_nil)
      (pss_cons (ps_if (pt_cmpR op_gt (pv 1) pe_int (nomark _)) (pss_one (ps_ret pe_int)) pss_nil)
      (pss_one (ps_ret pe_int)))))), ?_⟩
  walk_at "rd"
  refine ⟨v, t, b, rfl, N, ?_⟩
  walk_at "rd"
  refine ⟨v, t, b, rfl, N, fun p H1 S1 hp => ?_⟩
  walk_at "rd"
  have q' := q H1 S1
  unfold sgn at q'
  refine q_dec (fun e => ?_) (fun e => ?_)
  · walk_at "rd"
    rw [if_pos e] at q'
    exact q'
  · rw [if_neg e] at q'
    walk_at "rd"
    refine q_dec (fun e => ?_) (fun e => ?_)
    · walk_at "rd"
      rw [if_pos e] at q'
      exact q'
    · rw [if_neg e] at q'
      walk_at "rd"
      exact q'

abbrev s_less : Stmt := topS 20
theorem sc_less : FnScope ["one", "other"] ["one", "other"] (defScope s_less) := ⟨rfl, rfl, rfl, by decide +kernel, rfl, by decide +kernel, by decide +kernel⟩
theorem fn_less {f : Addr} {fd : FuncData} (F : Fun K "less" "less" s_less f fd) (B : Bl mg) (c__is_less : Cal P w K mg base 2 "_is_less" ["one", "other"] spLess) (c_need_number : Cal P w K mg base 3 "need_number" ["thing"] spNeed) : FnOk P w K mg base CX0 4 f fd ["one", "other"] (spN 2 spLess) := by
  refine fnN F sc_less (fun cdv A outer s H vs Q E hr h => ?_)
  obtain ⟨x, y, t, b, s0, d, rfl, N1, N2, B1, B2, B3, B4, q⟩ := h
  refine ⟨_, (pss_cons (ps_expr (pe_cal c_need_number hr (by decide) (by rfl) (pa_cons (pv 0) pa_nil)))
      (pss_cons (ps_expr (pe_cal c_need_number hr (by decide) (by rfl) (pa_cons (pv 1) pa_nil)))
      (pss_one (ps_ret (pe_cal c__is_less hr (by decide) (by rfl) (pa_cons (pv 0) (pa_cons (pv 1) pa_nil))))))), ?_⟩
  walk_at "rd"
  refine ⟨x, t, b, rfl, N1, ?_⟩
  walk_at "rd"
  refine ⟨y, s0, d, rfl, N2, ?_⟩
  walk_at "rd"
  exact ⟨x, y, t, b, s0, d, rfl, N1, N2, B1, B2, B3, B4, q⟩

abbrev s_floor_of : Stmt := topS 21
theorem sc_floor_of : FnScope ["number", "step", "top", "base", "step_top", "step_base", "many"] ["number", "step"] (defScope s_floor_of) := ⟨rfl, rfl, rfl, by decide +kernel, rfl, by decide +kernel, by decide +kernel⟩
theorem fn_floor_of {f : Addr} {fd : FuncData} (F : FunD K "floor_of" "floor_of" (defArgs s_floor_of) (defBody s_floor_of) (defScope s_floor_of) [] [("step", V.int 1)] f fd) (B : Bl mg) (c_lowest : Cal P w K mg base 1 "lowest" ["top", "base"] spLow) (c_pair_of : Cal P w K mg base 1 "pair_of" ["number"] spPair) (c_sign_of : Cal P w K mg base 4 "sign_of" ["number"] spSign) (c_need_number : Cal P w K mg base 3 "need_number" ["thing"] spNeed) : FnOk P w K mg base CX0 5 f fd ["number", "step"] (spN 2 spFloor) := by
  refine fnD F sc_floor_of (fun cdv A outer s H vs Q E hr h => ?_)
  obtain ⟨x, y, t, b, c, d, rfl, N1, N2, hc, B1, B2, B3, B4, q⟩ := h
  refine ⟨_, (pss_cons (ps_expr (pe_cal c_need_number hr (by decide) (by rfl) (pa_cons (pv 0) pa_nil)))
      (pss_cons (ps_if (pt_cmpR op_lt (pe_cal c_sign_of hr (by decide) (by rfl) (pa_cons (pv 1) pa_nil)) pe_int (nomark _)) (pss_one ps_never) pss_nil)
      (pss_cons (ps_asg (pe_cal c_pair_of hr (by decide) (by rfl) (pa_cons (pv 0) pa_nil)) (pg_tup (by rfl) (pgs_cons (pg_name (i := 2) sc_floor_of.nd rfl (.inl rfl)) (pgs_cons (pg_name (i := 3) sc_floor_of.nd rfl (.inl rfl)) pgs_nil))))
      (pss_cons (ps_asg (pe_cal c_pair_of hr (by decide) (by rfl) (pa_cons (pv 1) pa_nil)) (pg_tup (by rfl) (pgs_cons (pg_name (i := 4) sc_floor_of.nd rfl (.inl rfl)) (pgs_cons (pg_name (i := 5) sc_floor_of.nd rfl (.inl rfl)) pgs_nil))))
      (pss_cons (ps_set (i := 6) sc_floor_of.nd rfl (.inl rfl) (pe_op op_fdivA (pe_op op_mulW (pv 2) (pv 5)) (pe_op op_mulW (pv 3) (pv 4))))
      (pss_one (ps_ret (pe_cal c_lowest hr (by decide) (by rfl) (pa_cons (pe_op op_mulW (pv 6) (pv 4)) (pa_cons (pv 5) pa_nil)))))))))), ?_⟩
  walk_at "rd"
  refine ⟨x, t, b, rfl, N1, ?_⟩
  walk_at "rd"
  refine ⟨y, c, d, rfl, N2, fun H1 S1 => ?_⟩
  walk_at "rd"
  refine q_decF (by unfold sgn; rw [if_neg (by omega), if_pos hc]; decide) ?_
  walk_at "rd"
  refine ⟨x, t, b, rfl, N1.same S1, fun p H2 S2 hp => ?_⟩
  walk_at "rd"
  refine ⟨y, c, d, rfl, N2.same (S1.trans S2), fun p2 H3 S3 hp2 => ?_⟩
  walk_at "rd"
  refine q_I (mulW B1 B4 (by decide)) ?_
  walk_at "rd"
  refine q_I (mulW B2 B3 (by decide)) ?_
  have hbc : 0 < b * c := Int.mul_pos N1.pos hc
  refine q_I (divA (by omega) (B2.mul B3) (by decide)) ?_
  walk_at "rd"
  have BM : Bt 2000 ((t * d).fdiv (b * c)) := (B1.mul B4).le (fdiv_abs hbc)
  refine q_I (mulW BM B3 (by decide)) ?_
  walk_at "rd"
  refine ⟨flo t b c d, d, rfl, by have := N2.pos; omega, (BM.mul B3).mono (by decide), B4.mono (by decide), fun v H4 t' b' S4 N L => ?_⟩
  exact q v H4 t' b' (((S1.trans S2).trans S3).trans S4) N L

abbrev s_is_place : Stmt := topS 23
theorem sc_is_place : FnScope ["thing", "part"] ["thing"] (defScope s_is_place) := ⟨rfl, rfl, rfl, by decide +kernel, rfl, by decide +kernel, by decide +kernel⟩
theorem fn_is_place {f : Addr} {fd : FuncData} (F : Fun K "is_place" "is_place" s_is_place f fd) (B : Bl mg) (cq_is_number : Cal P w K mg base 2 "is_number" ["thing"] spIsNumQ) : FnOk P w K mg base CX0 3 f fd ["thing"] (spN 1 (spIsPl K)) := by
  refine fnN F sc_is_place (fun cdv A outer s H vs Q E hr h => ?_)
  obtain ⟨v, x, y, rfl, ⟨p, vx, vy, rfl, hp, Nx, Ny⟩, q⟩ := h
  refine ⟨_, (pss_one (ps_ret (pe_and (pe_callB call_isi (by rfl) B.b_isinstance (by decide +kernel) (pa_cons (pv 0) (pa_cons (pe_bltn (v := .ty "tuple") (by rfl) B.b_tuple (by decide +kernel) rfl) pa_nil))) (pe_and (pe_cmpR op_eqI (pe_callB call_lenK (by rfl) B.b_len (by decide +kernel) (pa_cons (pv 0) pa_nil)) pe_int (nomark _)) (pe_one (pe_callB (cr_all rfl) (by rfl) B.b_all (by decide +kernel) (pa_cons (pe_lc (own := [("part", 1)]) (g := gName 1) (tt := tYes) (by rfl) sc_is_place.nd (pi_tup (pv 0)) (blkOk_by (own := [("part", 1)]) (N := ["thing", "part"]) (sc := defScope s_is_place) (by decide +kernel)) (fun _ _ _ _ _ => pg_name (i := 1) sc_is_place.nd rfl (.inl rfl)) (fun _ _ _ _ _ => pts_nil) (fun _ _ _ _ _ => (pe_cal cq_is_number hr (by decide) (by rfl) (pa_cons (pv 1) pa_nil)))) pa_nil))))))), ?_⟩
  walk_at "rd"
  refine ⟨_, rfl, p, rfl, ⟨_, hp⟩, fun D nD => ?_⟩
  refine lc_tup (K := K) (a := p) (xs := [vx, vy]) (fun i H' => i ≤ 2 ∧ Same H H' ∧ H' D = some (.lst ((List.replicate i true).map V.bl))) ⟨by decide, Same.up nD, upd_same⟩ (fun _ _ _ ⟨_, s, _⟩ => sqt_same hp s) ?_ ?_
  · rintro i z H1 hz ⟨hi, S1, hD⟩
    walk_at "rd"
    refine ⟨rfl, ?_⟩
    walk_at "rd"
    obtain ⟨r, N⟩ : ∃ r, NQ H1 z r := by
      have hm := List.mem_of_getElem? hz
      rcases List.mem_cons.mp hm with e | hm
      · exact ⟨x, e ▸ Nx.same S1⟩
      rcases List.mem_cons.mp hm with e | hm
      · exact ⟨y, e ▸ Ny.same S1⟩
      · cases hm
    have hi2 : i < 2 := (List.getElem?_eq_some_iff.mp hz).1
    refine ⟨z, r, rfl, N, ?_⟩
    refine ⟨_, hD, small1000 (by rw [List.length_map, List.length_replicate]; omega), by omega, fun b o e => ?_, ?_⟩
    · rw [upd_ne (ne_of_none e nD)]
      exact S1 b o e
    · rw [upd_same, List.replicate_succ', List.map_append]
      rfl
  · rintro H1 ⟨_, S1, hD⟩
    walk_at "rd"
    refine ⟨D, List.replicate 2 true, rfl, SqL.of hD, ?_⟩
    exact q H1 S1

abbrev s_need_place : Stmt := topS 24
theorem sc_need_place : FnScope ["thing"] ["thing"] (defScope s_need_place) := ⟨rfl, rfl, rfl, by decide +kernel, rfl, by decide +kernel, by decide +kernel⟩
theorem fn_need_place {f : Addr} {fd : FuncData} (F : Fun K "need_place" "need_place" s_need_place f fd) (B : Bl mg) (c_is_place : Cal P w K mg base 3 "is_place" ["thing"] (spIsPl K)) : FnOk P w K mg base CX0 4 f fd ["thing"] (spN 1 (spNeedPl K)) := by
  refine fnN F sc_need_place (fun cdv A outer s H vs Q E hr h => ?_)
  obtain ⟨v, x, y, rfl, P1, q⟩ := h
  refine ⟨_, (pss_one (ps_if (pt_not (pt_val (pe_cal c_is_place hr (by decide) (by rfl) (pa_cons (pv 0) pa_nil)))) (pss_one ps_never) pss_nil)), ?_⟩
  walk_at "rd"
  refine ⟨v, x, y, rfl, P1, fun H1 S1 => ?_⟩
  walk_at "rd"
  exact q H1 S1

abbrev s_need_polygons : Stmt := topS 28
theorem sc_need_polygons : FnScope ["parts", "polygon", "place"] ["parts"] (defScope s_need_polygons) := ⟨rfl, rfl, rfl, by decide +kernel, rfl, by decide +kernel, by decide +kernel⟩
theorem fn_need_polygons {f : Addr} {fd : FuncData} (F : Fun K "need_polygons" "need_polygons" s_need_polygons f fd) (B : Bl mg) (c_need_place : Cal P w K mg base 4 "need_place" ["thing"] (spNeedPl K)) (c_is_list : Cal P w K mg base 1 "is_list" ["thing", "low", "high"] (spIsList K)) : FnOk P w K mg base CX0 5 f fd ["parts"] (spN 1 (spPols K)) := by
  refine fnN F sc_need_polygons (fun cdv A outer s H vs Q E hr h => ?_)
  obtain ⟨tu, tb, a, Bz, pss, rfl, PB, ok, q⟩ := h
  refine ⟨_, (pss_cons (ps_if (pt_not (pt_val (pe_cal c_is_list hr (by decide) (by rfl) (pa_cons (pv 0) (pa_cons pe_int (pa_cons (pe_globI (by rfl) B.b_MOST_POLYGONS) pa_nil)))))) (pss_one ps_never) pss_nil)
      (pss_one (ps_for PassesOwn.never (by rfl) (pi_seq (pv 0)) (pg_name (i := 1) sc_need_polygons.nd rfl (.inl rfl)) (pss_cons (ps_if (pt_not (pt_val (pe_cal c_is_list hr (by decide) (by rfl) (pa_cons (pv 1) (pa_cons pe_int (pa_cons (pe_globI (by rfl) B.b_MOST_PLACES) pa_nil)))))) (pss_one ps_never) pss_nil)
      (pss_one (ps_for PassesOwn.never (by rfl) (pi_seq (pv 1)) (pg_name (i := 2) sc_need_polygons.nd rfl (.inl rfl)) (pss_one (ps_expr (pe_cal c_need_place hr (by decide) (by rfl) (pa_cons (pv 2) pa_nil)))))))))), ?_⟩
  obtain ⟨vs, hq, hlen, hv⟩ := PB.ex
  have l0 := ok.l0
  have l1 := ok.l1
  walk_at "rx"
  refine ⟨tu, a, vs, 1, 4, rfl, hq, fun H1 S1 => ?_⟩
  rw [show (decide ((1 : Int) ≤ vs.length) && decide ((vs.length : Int) ≤ 4)) = true by simp; omega]
  walk_at "rx"
  refine ⟨a, rfl, for_seq (hq.same S1) (fun i σ H' => ∃ y z, σ = [some (.ref a), y, z] ∧ Same H1 H') ⟨_, _, rfl, Same.refl _⟩ (fun _ _ _ _ ⟨_, _, _, s⟩ => (hq.same S1).same s) ?_ ?_⟩
  · rintro i x σ H2 hx ⟨y, z, rfl, S2⟩
    have hi : i < pss.length := by rw [← hlen]; exact (List.getElem?_eq_some_iff.mp hx).1
    obtain ⟨b, e, PP⟩ := hv i pss[i] (List.getElem?_eq_getElem hi)
    rw [hx] at e
    cases e
    obtain ⟨o1, o2, o3⟩ := ok.all _ (List.getElem_mem hi)
    have S12 := S1.trans S2
    obtain ⟨ws, kq, klen, kv⟩ := PP.ex
    walk_at "rx"
    refine ⟨tb, b, ws, 1, 100, rfl, kq.same S12, fun H3 S3 => ?_⟩
    have S13 := S12.trans S3
    rw [show (decide ((1 : Int) ≤ ws.length) && decide ((ws.length : Int) ≤ 100)) = true by simp; omega]
    walk_at "rx"
    refine ⟨b, rfl, for_seq (kq.same S13) (fun i σ H' => ∃ z, σ = [some (.ref a), some (.ref b), z] ∧ Same H3 H') ⟨_, rfl, Same.refl _⟩ (fun _ _ _ _ ⟨_, _, s⟩ => (kq.same S13).same s) ?_ ?_⟩
    · rintro j u σ H4 hu ⟨z, rfl, S4⟩
      have hj : j < pss[i].length := by rw [← klen]; exact (List.getElem?_eq_some_iff.mp hu).1
      obtain ⟨v, e, PL⟩ := kv j pss[i][j] (List.getElem?_eq_getElem hj)
      rw [hu] at e
      cases e
      walk_at "rx"
      refine ⟨u, _, _, rfl, (PL.same (S13.trans S4)).pl, fun H5 S5 => ?_⟩
      walk_at "rx"
      exact ⟨_, rfl, S4.trans S5⟩
    · rintro σ H4 ⟨z, rfl, S4⟩
      walk_at "rx"
      exact ⟨_, _, rfl, (S2.trans S3).trans S4⟩
  · rintro σ H2 ⟨y, z, rfl, S2⟩
    exact q _ (S1.trans S2)

abbrev s__whole_place : Stmt := topS 29
theorem sc__whole_place : FnScope ["place", "top", "base", "other_top", "other_base", "shared"] ["place"] (defScope s__whole_place) := ⟨rfl, rfl, rfl, by decide +kernel, rfl, by decide +kernel, by decide +kernel⟩
theorem fn__whole_place {f : Addr} {fd : FuncData} (F : Fun K "_whole_place" "_whole_place" s__whole_place f fd) (B : Bl mg) (cq_pair_of : Cal P w K mg base 1 "pair_of" ["number"] spPairQ) : FnOk P w K mg base CX0 2 f fd ["place"] (spN 1 spWhole) := by
  refine fnN F sc__whole_place (fun cdv A outer s H vs Q E hr h => ?_)
  obtain ⟨v, Bz, p, rfl, hB, bB, PB, sp, q⟩ := h
  refine ⟨_, (pss_cons (ps_asg (pe_cal cq_pair_of hr (by decide) (by rfl) (pa_cons (pe_ix ix_tup (pv 0) pe_int (fun _ _ => rfl)) pa_nil)) (pg_tup (by rfl) (pgs_cons (pg_name (i := 1) sc__whole_place.nd rfl (.inl rfl)) (pgs_cons (pg_name (i := 2) sc__whole_place.nd rfl (.inl rfl)) pgs_nil))))
      (pss_cons (ps_asg (pe_cal cq_pair_of hr (by decide) (by rfl) (pa_cons (pe_ix ix_tup (pv 0) pe_int (fun _ _ => rfl)) pa_nil)) (pg_tup (by rfl) (pgs_cons (pg_name (i := 3) sc__whole_place.nd rfl (.inl rfl)) (pgs_cons (pg_name (i := 4) sc__whole_place.nd rfl (.inl rfl)) pgs_nil))))
      (pss_cons (ps_set (i := 5) sc__whole_place.nd rfl (.inl rfl) (pe_callBfun cr_lcm (by rfl) B.b_lcm (pa_cons (pv 2) (pa_cons (pv 4) pa_nil))))
      (pss_one (ps_ret (pe_tup (pa_cons (pe_op op_mulW (pv 1) (pe_op op_fdivA (pv 5) (pv 2))) (pa_cons (pe_op op_mulW (pv 3) (pe_op op_fdivA (pv 5) (pv 4))) (pa_cons (pv 5) pa_nil))))))))), ?_⟩
  obtain ⟨t1, x1, y1, rfl, h1, N1, N2⟩ := PB
  walk_at "rx"
  refine ⟨x1, _, rfl, N1, fun p1 H1 S1 hp1 => ?_⟩
  walk_at "rx"
  have h1 := S1 _ _ h1
  have N2 := N2.same S1
  walk_at "rx"
  refine ⟨y1, _, rfl, N2, fun p2 H2 S2 hp2 => ?_⟩
  walk_at "rx"
  have d1 := den_dvdE (x := p.1) hB
  have d2 := den_dvdE (x := p.2) hB
  have c1 := ((p.1 : Rat) / (Bz : Rat)).den_pos
  have c2 := ((p.2 : Rat) / (Bz : Rat)).den_pos
  have l1 := Int.le_of_dvd hB d1
  have l2 := Int.le_of_dvd hB d2
  have b8 : Bz.natAbs < 2 ^ 64 := Nat.lt_of_lt_of_le bB.lt (by decide)
  have W := whole_of hB bB sp rfl rfl rfl
  refine q_lcm (by omega) (by omega) ?_
  generalize ((Nat.lcm ((((p.1 : Rat) / (Bz : Rat)).den : Int).natAbs) ((((p.2 : Rat) / (Bz : Rat)).den : Int).natAbs) : Nat) : Int) = L at W ⊢
  walk_at "rx"
  have k1 : (((p.1 : Rat) / (Bz : Rat)).den : Int) ≠ 0 := by omega
  have k2 : (((p.2 : Rat) / (Bz : Rat)).den : Int) ≠ 0 := by omega
  have w1 : Bt 8 (((p.1 : Rat) / (Bz : Rat)).den : Int) := ⟨Nat.lt_of_le_of_lt (by omega) bB.lt⟩
  have w2 : Bt 8 (((p.2 : Rat) / (Bz : Rat)).den : Int) := ⟨Nat.lt_of_le_of_lt (by omega) bB.lt⟩
  have m1 := (bq1 hB bB sp.1).t
  have m2 := (bq1 hB bB sp.2).t
  have fL : ∀ {x y : Int}, Bt 10 x → Bt 10 (x.fdiv y) := fun {x y} h => ⟨by
    refine Nat.lt_of_le_of_lt ?_ h.lt
    exact Int.natAbs_fdiv_le_natAbs _ _⟩
  have bL := W.2.2.2
  refine q_I (divA k1 w1 (by decide)) ?_
  walk_at "rx"
  refine q_I (mulW m1 (fL bL) (by decide)) ?_
  walk_at "rx"
  refine q_I (divA k2 w2 (by decide)) ?_
  walk_at "rx"
  refine q_I (mulW m2 (fL bL) (by decide)) ?_
  walk_at "rx"
  intro T nT
  exact q T (((p.1 : Rat) / (Bz : Rat)).num * L.fdiv (((p.1 : Rat) / (Bz : Rat)).den : Int), ((p.2 : Rat) / (Bz : Rat)).num * L.fdiv (((p.2 : Rat) / (Bz : Rat)).den : Int), L) _ ((S1.trans S2).trans (Same.up nT)) upd_same W

abbrev s__line : Stmt := topS 30
theorem sc__line : FnScope ["one", "other", "x", "y", "base", "other_x", "other_y", "other_base"] ["one", "other"] (defScope s__line) := ⟨rfl, rfl, rfl, by decide +kernel, rfl, by decide +kernel, by decide +kernel⟩
theorem fn__line {f : Addr} {fd : FuncData} (F : Fun K "_line" "_line" s__line f fd) (B : Bl mg)  : FnOk P w K mg base CX0 1 f fd ["one", "other"] (spN 2 spLineW) := by
  refine fnN F sc__line (fun cdv A outer s H vs Q E hr h => ?_)
  obtain ⟨t1, t2, u, w, rfl, h1, h2, bu, bw, q⟩ := h
  refine ⟨_, (pss_cons (ps_asg (pv 0) (pg_tup (by rfl) (pgs_cons (pg_name (i := 2) sc__line.nd rfl (.inl rfl)) (pgs_cons (pg_name (i := 3) sc__line.nd rfl (.inl rfl)) (pgs_cons (pg_name (i := 4) sc__line.nd rfl (.inl rfl)) pgs_nil)))))
      (pss_cons (ps_asg (pv 1) (pg_tup (by rfl) (pgs_cons (pg_name (i := 5) sc__line.nd rfl (.inl rfl)) (pgs_cons (pg_name (i := 6) sc__line.nd rfl (.inl rfl)) (pgs_cons (pg_name (i := 7) sc__line.nd rfl (.inl rfl)) pgs_nil)))))
      (pss_one (ps_ret (pe_tup (pa_cons (pe_op op_sub (pe_op op_mulW (pv 3) (pv 7)) (pe_op op_mulW (pv 4) (pv 6))) (pa_cons (pe_op op_sub (pe_op op_mulW (pv 4) (pv 5)) (pe_op op_mulW (pv 2) (pv 7))) (pa_cons (pe_op op_sub (pe_op op_mulW (pv 2) (pv 6)) (pe_op op_mulW (pv 3) (pv 5))) pa_nil)))))))), ?_⟩
  obtain ⟨u1, u2, u3⟩ := u
  obtain ⟨w1, w2, w3⟩ := w
  obtain ⟨b1, b2, b3⟩ := bu
  obtain ⟨e1, e2, e3⟩ := bw
  have h1 : H t1 = some (.tup [.int u1, .int u2, .int u3]) := h1
  have h2 : H t2 = some (.tup [.int w1, .int w2, .int w3]) := h2
  walk_at "rx"
  have mm : ∀ {x y : Int} {n m : Nat}, Bt n x → Bt m y → n + m ≤ 900000 → CMulW x y := fun h k l => mulW h k l
  refine q_I (mm b2 e3 (by decide)) ?_
  walk_at "rx"
  refine q_I (mm b3 e2 (by decide)) ?_
  walk_at "rx"
  refine q_I (mm b3 e1 (by decide)) ?_
  walk_at "rx"
  refine q_I (mm b1 e3 (by decide)) ?_
  walk_at "rx"
  refine q_I (mm b1 e2 (by decide)) ?_
  walk_at "rx"
  refine q_I (mm b2 e1 (by decide)) ?_
  walk_at "rx"
  intro T nT
  exact q T _ (Same.up nT) upd_same

abbrev s__box : Stmt := topS 31
theorem sc__box : FnScope ["one", "other", "xs", "ys"] ["one", "other"] (defScope s__box) := ⟨rfl, rfl, rfl, by decide +kernel, rfl, by decide +kernel, by decide +kernel⟩
theorem fn__box {f : Addr} {fd : FuncData} (F : Fun K "_box" "_box" s__box f fd) (B : Bl mg) (qck_floor_of_1 : CalK P w K mg base 5 "floor_of" ["number", "step"] spFloorQ 1 [] [V.int 1] [0, 1]) : FnOk P w K mg base CX0 6 f fd ["one", "other"] (spN 2 spBoxE) := by
  refine fnN F sc__box (fun cdv A outer s H vs Q E hr h => ?_)
  obtain ⟨v, w, Bz, p, r, rfl, hB, bB, P1, P2, s1, s2, q⟩ := h
  refine ⟨_, (pss_cons (ps_set (i := 2) sc__box.nd rfl (.inl rfl) (pe_lst (pa_cons (pe_calK qck_floor_of_1 hr (by decide) (by rfl) (pa_cons (pe_ix ix_tup (pv 0) pe_int (fun _ _ => rfl)) pa_nil) pk_nil) (pa_cons (pe_calK qck_floor_of_1 hr (by decide) (by rfl) (pa_cons (pe_ix ix_tup (pv 1) pe_int (fun _ _ => rfl)) pa_nil) pk_nil) pa_nil))))
      (pss_cons (ps_set (i := 3) sc__box.nd rfl (.inl rfl) (pe_lst (pa_cons (pe_calK qck_floor_of_1 hr (by decide) (by rfl) (pa_cons (pe_ix ix_tup (pv 0) pe_int (fun _ _ => rfl)) pa_nil) pk_nil) (pa_cons (pe_calK qck_floor_of_1 hr (by decide) (by rfl) (pa_cons (pe_ix ix_tup (pv 1) pe_int (fun _ _ => rfl)) pa_nil) pk_nil) pa_nil))))
      (pss_one (ps_ret (pe_tup (pa_cons (pe_callB (L2.cr_min rfl) (by rfl) B.b_min (by decide +kernel) (pa_cons (pv 2) pa_nil)) (pa_cons (pe_callB (L2.cr_max rfl) (by rfl) B.b_max (by decide +kernel) (pa_cons (pv 2) pa_nil)) (pa_cons (pe_callB (L2.cr_min rfl) (by rfl) B.b_min (by decide +kernel) (pa_cons (pv 3) pa_nil)) (pa_cons (pe_callB (L2.cr_max rfl) (by rfl) B.b_max (by decide +kernel) (pa_cons (pv 3) pa_nil)) pa_nil))))))))), ?_⟩
  obtain ⟨t1, x1, y1, rfl, h1, N1, N2⟩ := P1
  obtain ⟨t2, x2, y2, rfl, h2, N3, N4⟩ := P2
  walk_at "rx"
  have n1 := bq1 hB bB s1.1
  have n2 := bq1 hB bB s1.2
  have n3 := bq1 hB bB s2.1
  have n4 := bq1 hB bB s2.2
  have c1 : (0 : Rat) < ((1 : Int) : Rat) := Rat.intCast_pos.mpr (by decide)
  have c2 : BQ 1000 ((1 : Int) : Rat) := BQ.int ⟨by decide⟩ (by decide)
  refine ⟨x1, .int 1, _, _, rfl, N1, NQ.int, c1, n1.mono (by decide), c2, fun z1 H1 S1 M1 => ?_⟩
  have M1 := flo_B hB M1
  subst M1
  have h2 := S1 _ _ h2
  walk_at "rx"
  refine ⟨x2, .int 1, _, _, rfl, N3.same S1, NQ.int, c1, n3.mono (by decide), c2, fun z2 H2 S2 M2 => ?_⟩
  have M2 := flo_B hB M2
  subst M2
  walk_at "rx"
  intro xs nx
  have Sx := Same.up (o := .lst [.int (p.1.fdiv Bz), .int (r.1.fdiv Bz)]) nx
  have hx : upd H2 xs (.lst [.int (p.1.fdiv Bz), .int (r.1.fdiv Bz)]) xs = some (.lst [.int (p.1.fdiv Bz), .int (r.1.fdiv Bz)]) := upd_same
  generalize upd H2 xs (.lst [.int (p.1.fdiv Bz), .int (r.1.fdiv Bz)]) = H3 at Sx hx ⊢
  have S03 := (S1.trans S2).trans Sx
  have h1 := S03 _ _ h1
  have h2 := Sx _ _ (S2 _ _ h2)
  walk_at "rx"
  refine ⟨y1, .int 1, _, _, rfl, N2.same S03, NQ.int, c1, n2.mono (by decide), c2, fun z3 H4 S4 M3 => ?_⟩
  have M3 := flo_B hB M3
  subst M3
  have h2 := S4 _ _ h2
  walk_at "rx"
  refine ⟨y2, .int 1, _, _, rfl, N4.same (S03.trans S4), NQ.int, c1, n4.mono (by decide), c2, fun z4 H5 S5 M4 => ?_⟩
  have M4 := flo_B hB M4
  subst M4
  walk_at "rx"
  intro ys ny
  have Sy := Same.up (o := .lst [.int (p.2.fdiv Bz), .int (r.2.fdiv Bz)]) ny
  have hy : upd H5 ys (.lst [.int (p.2.fdiv Bz), .int (r.2.fdiv Bz)]) ys = some (.lst [.int (p.2.fdiv Bz), .int (r.2.fdiv Bz)]) := upd_same
  generalize upd H5 ys (.lst [.int (p.2.fdiv Bz), .int (r.2.fdiv Bz)]) = H6 at Sy hy ⊢
  have hx := Sy _ _ (S5 _ _ (S4 _ _ hx))
  walk_at "rx"
  refine q_min2 hx ?_
  walk_at "rx"
  refine q_max2 hx ?_
  walk_at "rx"
  refine q_min2 hy ?_
  walk_at "rx"
  refine q_max2 hy ?_
  walk_at "rx"
  intro T nT
  exact q T _ ((((S03.trans S4).trans S5).trans Sy).trans (Same.up nT)) upd_same

abbrev s_Edge___init__ : Stmt := inClass (topS 32) 0
theorem sc_Edge___init__ : FnScope ["self", "at", "follower", "begin", "end"] ["self", "at", "follower", "begin", "end"] (defScope s_Edge___init__) := ⟨rfl, rfl, rfl, by decide +kernel, rfl, by decide +kernel, by decide +kernel⟩
theorem fn_Edge___init__ {f : Addr} {fd : FuncData} (F : Fun K "__init__" "Edge.__init__" s_Edge___init__ f fd) (B : Bl mg) {C_Edge : Addr} (cl_Edge : Cls K C_Edge) (na_Edge_box : NoAttr K C_Edge "box") (na_Edge_line : NoAttr K C_Edge "line") (na_Edge_whole_end : NoAttr K C_Edge "whole_end") (na_Edge_whole_begin : NoAttr K C_Edge "whole_begin") (na_Edge_end : NoAttr K C_Edge "end") (na_Edge_begin : NoAttr K C_Edge "begin") (na_Edge_follower : NoAttr K C_Edge "follower") (na_Edge_at : NoAttr K C_Edge "at") (c__box : Cal P w K mg base 6 "_box" ["one", "other"] spBoxE) (c__line : Cal P w K mg base 1 "_line" ["one", "other"] spLineW) (c__whole_place : Cal P w K mg base 2 "_whole_place" ["place"] spWhole) : FnOk P w K mg base CX0 7 f fd ["self", "at", "follower", "begin", "end"] (spN 5 (spEdge C_Edge)) := by
  refine fnM F sc_Edge___init__ (fun cdv A outer s H vs Q E hr h => ?_)
  obtain ⟨a, dx, ta, tf, vb, ve, Bz, e, rfl, hB, bB, ha, hta, htf, PB, PE, s1, s2, q⟩ := h
  refine ⟨_, (pss_cons (ps_fld (pv 0) (pv 1) rfl)
      (pss_cons (ps_fld (pv 0) (pv 2) rfl)
      (pss_cons (ps_fld (pv 0) (pv 3) rfl)
      (pss_cons (ps_fld (pv 0) (pv 4) rfl)
      (pss_cons (ps_fld (pv 0) (pe_cal c__whole_place hr (by decide) (by rfl) (pa_cons (pv 3) pa_nil)) rfl)
      (pss_cons (ps_fld (pv 0) (pe_cal c__whole_place hr (by decide) (by rfl) (pa_cons (pv 4) pa_nil)) rfl)
      (pss_cons (ps_fld (pv 0) (pe_cal c__line hr (by decide) (by rfl) (pa_cons (pe_fld (pv 0) rfl) (pa_cons (pe_fld (pv 0) rfl) pa_nil))) rfl)
      (pss_one (ps_fld (pv 0) (pe_cal c__box hr (by decide) (by rfl) (pa_cons (pv 3) (pa_cons (pv 4) pa_nil))) rfl))))))))), ?_⟩
  walk_at "rx"
  have O : Oth a H H := fun b o h _ => h
  have h := ha
  have fl : ([] : List (Str × V)).length ≤ 0 := Nat.le_refl _
  refine q_sfldA h cl_Edge na_Edge_at (fl_lt fl (by decide)) ?_
  have I := Im.ins (z := .ins C_Edge dx (putF "at" (.ref ta) [])) h
  have O := Oth.put (o := .ins C_Edge dx (putF "at" (.ref ta) [])) O
  have h : upd H a (.ins C_Edge dx (putF "at" (.ref ta) [])) a = some (.ins C_Edge dx (putF "at" (.ref ta) [])) := upd_same
  have fl := fl_le (f := "at") (v := (.ref ta)) fl
  clear I
  generalize upd H a (.ins C_Edge dx (putF "at" (.ref ta) [])) = H1 at O h  ⊢
  walk_at "rx"
  refine q_sfldA h cl_Edge na_Edge_follower (fl_lt fl (by decide)) ?_
  have I := Im.ins (z := .ins C_Edge dx (putF "follower" (.ref tf) (putF "at" (.ref ta) []))) h
  have O := Oth.put (o := .ins C_Edge dx (putF "follower" (.ref tf) (putF "at" (.ref ta) []))) O
  have h : upd H1 a (.ins C_Edge dx (putF "follower" (.ref tf) (putF "at" (.ref ta) []))) a = some (.ins C_Edge dx (putF "follower" (.ref tf) (putF "at" (.ref ta) []))) := upd_same
  have fl := fl_le (f := "follower") (v := (.ref tf)) fl
  clear I
  generalize upd H1 a (.ins C_Edge dx (putF "follower" (.ref tf) (putF "at" (.ref ta) []))) = H2 at O h  ⊢
  walk_at "rx"
  refine q_sfldA h cl_Edge na_Edge_begin (fl_lt fl (by decide)) ?_
  have I := Im.ins (z := .ins C_Edge dx (putF "begin" vb (putF "follower" (.ref tf) (putF "at" (.ref ta) [])))) h
  have O := Oth.put (o := .ins C_Edge dx (putF "begin" vb (putF "follower" (.ref tf) (putF "at" (.ref ta) [])))) O
  have h : upd H2 a (.ins C_Edge dx (putF "begin" vb (putF "follower" (.ref tf) (putF "at" (.ref ta) [])))) a = some (.ins C_Edge dx (putF "begin" vb (putF "follower" (.ref tf) (putF "at" (.ref ta) [])))) := upd_same
  have fl := fl_le (f := "begin") (v := vb) fl
  clear I
  generalize upd H2 a (.ins C_Edge dx (putF "begin" vb (putF "follower" (.ref tf) (putF "at" (.ref ta) [])))) = H3 at O h  ⊢
  walk_at "rx"
  refine q_sfldA h cl_Edge na_Edge_end (fl_lt fl (by decide)) ?_
  have I := Im.ins (z := .ins C_Edge dx (putF "end" ve (putF "begin" vb (putF "follower" (.ref tf) (putF "at" (.ref ta) []))))) h
  have O := Oth.put (o := .ins C_Edge dx (putF "end" ve (putF "begin" vb (putF "follower" (.ref tf) (putF "at" (.ref ta) []))))) O
  have h : upd H3 a (.ins C_Edge dx (putF "end" ve (putF "begin" vb (putF "follower" (.ref tf) (putF "at" (.ref ta) []))))) a = some (.ins C_Edge dx (putF "end" ve (putF "begin" vb (putF "follower" (.ref tf) (putF "at" (.ref ta) []))))) := upd_same
  have fl := fl_le (f := "end") (v := ve) fl
  clear I
  generalize upd H3 a (.ins C_Edge dx (putF "end" ve (putF "begin" vb (putF "follower" (.ref tf) (putF "at" (.ref ta) []))))) = H4 at O h  ⊢
  walk_at "rx"
  refine ⟨vb, Bz, e.P, rfl, hB, bB, PB.im (Oth.im O ha), s1, fun tb u K5 S5 Tb W5 => ?_⟩
  have Tb : K5 tb = some (.tup [.int u.1, .int u.2.1, .int u.2.2]) := Tb
  have O := Oth.same O S5
  have h := S5 _ _ h
  walk_at "rx"
  refine q_sfldA h cl_Edge na_Edge_whole_begin (fl_lt fl (by decide)) ?_
  have I := Im.ins (z := .ins C_Edge dx (putF "whole_begin" (.ref tb) (putF "end" ve (putF "begin" vb (putF "follower" (.ref tf) (putF "at" (.ref ta) [])))))) h
  have O := Oth.put (o := .ins C_Edge dx (putF "whole_begin" (.ref tb) (putF "end" ve (putF "begin" vb (putF "follower" (.ref tf) (putF "at" (.ref ta) [])))))) O
  have Tb := I _ _ Tb
  have h : upd K5 a (.ins C_Edge dx (putF "whole_begin" (.ref tb) (putF "end" ve (putF "begin" vb (putF "follower" (.ref tf) (putF "at" (.ref ta) [])))))) a = some (.ins C_Edge dx (putF "whole_begin" (.ref tb) (putF "end" ve (putF "begin" vb (putF "follower" (.ref tf) (putF "at" (.ref ta) [])))))) := upd_same
  have fl := fl_le (f := "whole_begin") (v := (.ref tb)) fl
  clear I
  generalize upd K5 a (.ins C_Edge dx (putF "whole_begin" (.ref tb) (putF "end" ve (putF "begin" vb (putF "follower" (.ref tf) (putF "at" (.ref ta) [])))))) = H5 at O h Tb ⊢
  walk_at "rx"
  refine ⟨ve, Bz, e.Q, rfl, hB, bB, PE.im (Oth.im O ha), s2, fun te w K6 S6 Te W6 => ?_⟩
  have Te : K6 te = some (.tup [.int w.1, .int w.2.1, .int w.2.2]) := Te
  have O := Oth.same O S6
  have h := S6 _ _ h
  have Tb := S6 _ _ Tb
  walk_at "rx"
  refine q_sfldA h cl_Edge na_Edge_whole_end (fl_lt fl (by decide)) ?_
  have I := Im.ins (z := .ins C_Edge dx (putF "whole_end" (.ref te) (putF "whole_begin" (.ref tb) (putF "end" ve (putF "begin" vb (putF "follower" (.ref tf) (putF "at" (.ref ta) []))))))) h
  have O := Oth.put (o := .ins C_Edge dx (putF "whole_end" (.ref te) (putF "whole_begin" (.ref tb) (putF "end" ve (putF "begin" vb (putF "follower" (.ref tf) (putF "at" (.ref ta) []))))))) O
  have Tb := I _ _ Tb
  have Te := I _ _ Te
  have h : upd K6 a (.ins C_Edge dx (putF "whole_end" (.ref te) (putF "whole_begin" (.ref tb) (putF "end" ve (putF "begin" vb (putF "follower" (.ref tf) (putF "at" (.ref ta) []))))))) a = some (.ins C_Edge dx (putF "whole_end" (.ref te) (putF "whole_begin" (.ref tb) (putF "end" ve (putF "begin" vb (putF "follower" (.ref tf) (putF "at" (.ref ta) []))))))) := upd_same
  have fl := fl_le (f := "whole_end") (v := (.ref te)) fl
  clear I
  generalize upd K6 a (.ins C_Edge dx (putF "whole_end" (.ref te) (putF "whole_begin" (.ref tb) (putF "end" ve (putF "begin" vb (putF "follower" (.ref tf) (putF "at" (.ref ta) []))))))) = H6 at O h Tb Te ⊢
  walk_at "rx"
  refine ⟨tb, te, u, w, rfl, Tb, Te, W5.2, W6.2, fun tl K7 S7 Tl => ?_⟩
  have Tl : K7 tl = some (.tup [.int (lineW u w).1, .int (lineW u w).2.1, .int (lineW u w).2.2]) := Tl
  have O := Oth.same O S7
  have h := S7 _ _ h
  have Tb := S7 _ _ Tb
  have Te := S7 _ _ Te
  walk_at "rx"
  refine q_sfldA h cl_Edge na_Edge_line (fl_lt fl (by decide)) ?_
  have I := Im.ins (z := .ins C_Edge dx (putF "line" (.ref tl) (putF "whole_end" (.ref te) (putF "whole_begin" (.ref tb) (putF "end" ve (putF "begin" vb (putF "follower" (.ref tf) (putF "at" (.ref ta) [])))))))) h
  have O := Oth.put (o := .ins C_Edge dx (putF "line" (.ref tl) (putF "whole_end" (.ref te) (putF "whole_begin" (.ref tb) (putF "end" ve (putF "begin" vb (putF "follower" (.ref tf) (putF "at" (.ref ta) [])))))))) O
  have Tb := I _ _ Tb
  have Te := I _ _ Te
  have Tl := I _ _ Tl
  have h : upd K7 a (.ins C_Edge dx (putF "line" (.ref tl) (putF "whole_end" (.ref te) (putF "whole_begin" (.ref tb) (putF "end" ve (putF "begin" vb (putF "follower" (.ref tf) (putF "at" (.ref ta) [])))))))) a = some (.ins C_Edge dx (putF "line" (.ref tl) (putF "whole_end" (.ref te) (putF "whole_begin" (.ref tb) (putF "end" ve (putF "begin" vb (putF "follower" (.ref tf) (putF "at" (.ref ta) [])))))))) := upd_same
  have fl := fl_le (f := "line") (v := (.ref tl)) fl
  clear I
  generalize upd K7 a (.ins C_Edge dx (putF "line" (.ref tl) (putF "whole_end" (.ref te) (putF "whole_begin" (.ref tb) (putF "end" ve (putF "begin" vb (putF "follower" (.ref tf) (putF "at" (.ref ta) [])))))))) = H7 at O h Tb Te Tl ⊢
  walk_at "rx"
  refine ⟨vb, ve, Bz, e.P, e.Q, rfl, hB, bB, PB.im (Oth.im O ha), PE.im (Oth.im O ha), s1, s2, fun tx K8 S8 Tx => ?_⟩
  have Tx : K8 tx = _ := Tx
  have O := Oth.same O S8
  have h := S8 _ _ h
  have Tb := S8 _ _ Tb
  have Te := S8 _ _ Te
  have Tl := S8 _ _ Tl
  walk_at "rx"
  refine q_sfldA h cl_Edge na_Edge_box (fl_lt fl (by decide)) ?_
  have I := Im.ins (z := .ins C_Edge dx (putF "box" (.ref tx) (putF "line" (.ref tl) (putF "whole_end" (.ref te) (putF "whole_begin" (.ref tb) (putF "end" ve (putF "begin" vb (putF "follower" (.ref tf) (putF "at" (.ref ta) []))))))))) h
  have O := Oth.put (o := .ins C_Edge dx (putF "box" (.ref tx) (putF "line" (.ref tl) (putF "whole_end" (.ref te) (putF "whole_begin" (.ref tb) (putF "end" ve (putF "begin" vb (putF "follower" (.ref tf) (putF "at" (.ref ta) []))))))))) O
  have Tb := I _ _ Tb
  have Te := I _ _ Te
  have Tl := I _ _ Tl
  have Tx := I _ _ Tx
  have h : upd K8 a (.ins C_Edge dx (putF "box" (.ref tx) (putF "line" (.ref tl) (putF "whole_end" (.ref te) (putF "whole_begin" (.ref tb) (putF "end" ve (putF "begin" vb (putF "follower" (.ref tf) (putF "at" (.ref ta) []))))))))) a = some (.ins C_Edge dx (putF "box" (.ref tx) (putF "line" (.ref tl) (putF "whole_end" (.ref te) (putF "whole_begin" (.ref tb) (putF "end" ve (putF "begin" vb (putF "follower" (.ref tf) (putF "at" (.ref ta) []))))))))) := upd_same
  have fl := fl_le (f := "box") (v := (.ref tx)) fl
  clear I
  generalize upd K8 a (.ins C_Edge dx (putF "box" (.ref tx) (putF "line" (.ref tl) (putF "whole_end" (.ref te) (putF "whole_begin" (.ref tb) (putF "end" ve (putF "begin" vb (putF "follower" (.ref tf) (putF "at" (.ref ta) []))))))))) = H8 at O h Tb Te Tl Tx ⊢
  walk_at "rx"
  have I := Oth.im O ha
  exact q _ O ⟨a, dx, ta, tf, vb, ve, tb, te, tl, tx, u, w, rfl, h, I _ _ hta, I _ _ htf, PB.im I, PE.im I, Tb, Te, W5, W6, Tl, Tx, s1, s2⟩

abbrev s_edges_of : Stmt := topS 33
theorem sc_edges_of : FnScope ["number", "polygon", "ends", "kept", "followers", "at", "place", "follower"] ["number", "polygon"] (defScope s_edges_of) := ⟨rfl, rfl, rfl, by decide +kernel, rfl, by decide +kernel, by decide +kernel⟩
theorem fn_edges_of {f : Addr} {fd : FuncData} (F : Fun K "edges_of" "edges_of" s_edges_of f fd) (B : Bl mg) {C_Edge : Addr} (cl_Edge : Cls K C_Edge) (i_Edge___init__ : CalI P w K mg base 7 C_Edge "Edge" ["self", "at", "follower", "begin", "end"] (spEdge C_Edge)) : FnOk P w K mg base CX0 9 f fd ["number", "polygon"] (spN 2 (spEdgesOf K C_Edge)) := by
  refine fnN F sc_edges_of (fun cdv A outer s H vs Q E hr h => ?_)
  obtain ⟨n, tu, a, Bz, ps, rfl, hB, bB, PB, l0, l1, sm, q⟩ := h
  refine ⟨_, (pss_cons (ps_set (i := 2) sc_edges_of.nd rfl (.inr rfl) (pe_lst (StX.pa_star (pe_slice sl_seq (pv 1) (po_some pe_int) po_none) (pa_cons (pe_ix ix_seq (pv 1) pe_int (fun _ _ => rfl)) pa_nil))))
      (pss_cons (ps_setLc (i := 3) (own := [("at", 5), ("place", 6)]) (g := gTup K 2 (gCons (gName 5) (gCons (gName 6) (gNil)))) (by rfl) sc_edges_of.nd rfl rfl (sw_true rfl rfl rfl (by decide +kernel)) (pi_enumS (by rfl) B.b_enumerate (pa_cons (pv 1) pa_nil)) (blkOk_by (own := [("at", 5), ("place", 6)]) (N := ["number", "polygon", "ends", "kept", "followers", "at", "place", "follower"]) (sc := defScope s_edges_of) (by decide +kernel)) (fun _ _ _ _ _ => (pg_tupK (K := K) rfl (by rfl) (pgs_cons (pg_name (i := 5) sc_edges_of.nd rfl (.inl rfl)) (pgs_cons (pg_name (i := 6) sc_edges_of.nd rfl (.inl rfl)) pgs_nil)))) (fun _ _ _ _ _ => pts_one (pt_cmpR (op_neDK (K := K) rfl hr.units) (pv 6) (pe_ix (ix_listK (K := K) rfl) (pv 2) (pv 5) (fun _ _ => rfl)) (nomark _))) (fun _ _ _ _ _ => (pv 5)))
      (pss_cons (ps_set (i := 4) sc_edges_of.nd rfl (.inl rfl) (pe_op op_cat (pe_slice sl_list (pv 3) (po_some pe_int) po_none) (pe_slice sl_list (pv 3) po_none (po_some pe_int))))
      (pss_one (ps_ret (pe_lc (own := [("at", 5), ("follower", 7)]) (g := gTup K 2 (gCons (gName 5) (gCons (gName 7) (gNil)))) (tt := tYes) (by rfl) sc_edges_of.nd (pi_zip (by rfl) B.b_zip (pa_cons (pv 3) (pa_cons (pv 4) pa_nil))) (blkOk_by (own := [("at", 5), ("follower", 7)]) (N := ["number", "polygon", "ends", "kept", "followers", "at", "place", "follower"]) (sc := defScope s_edges_of) (by decide +kernel)) (fun _ _ _ _ _ => (pg_tupK (K := K) rfl (by rfl) (pgs_cons (pg_name (i := 5) sc_edges_of.nd rfl (.inl rfl)) (pgs_cons (pg_name (i := 7) sc_edges_of.nd rfl (.inl rfl)) pgs_nil)))) (fun _ _ _ _ _ => pts_nil) (fun _ _ _ _ _ => (pe_mkI i_Edge___init__ hr (by decide) (by rfl) (pa_cons (pe_tup (pa_cons (pv 0) (pa_cons (pv 5) pa_nil))) (pa_cons (pe_tup (pa_cons (pv 0) (pa_cons (pv 7) pa_nil))) (pa_cons (pe_ix (ix_seqK (K := K) rfl) (pv 1) (pv 5) (fun _ _ => rfl)) (pa_cons (pe_ix (ix_listK (K := K) rfl) (pv 2) (pv 5) (fun _ _ => rfl)) pa_nil)))))))))))), ?_⟩
  obtain ⟨vs, hq, hlen, hv⟩ := PB.ex
  walk_at "rx"
  have hn : 0 < vs.length := by omega
  obtain ⟨v0, e0, P0⟩ := hv 0 _ (List.getElem?_eq_getElem (show 0 < ps.length by omega))
  refine q_slE hq fun p1 H1 S1 hp1 => ?_
  rw [show cutV vs (some 1) none = vs.drop 1 from cut_drop vs 1] at hp1
  refine ⟨p1, _, rfl, sqE_or hp1, ?_⟩
  walk_at "rx"
  refine q_ixE (hq.same S1) e0 ?_
  walk_at "rx"
  refine ⟨by rw [sizeLine_eq, List.length_append, List.length_drop, List.length_singleton]; omega, ?_⟩
  intro en nen
  have Se := Same.up (o := .lst (vs.drop 1 ++ [v0])) nen
  have he : upd H1 en (.lst (vs.drop 1 ++ [v0])) en = some (.lst (vs.drop 1 ++ [v0])) := upd_same
  generalize upd H1 en (.lst (vs.drop 1 ++ [v0])) = H2 at Se he ⊢
  have S2 := S1.trans Se
  have endAt : ∀ i, i < ps.length → ∃ w, (vs.drop 1 ++ [v0])[i]? = some w ∧ PlB H Bz w (atZ ps (nxt ps i)) := fun i hi => by
    have hm : (i + 1) % ps.length < ps.length := Nat.mod_lt _ (by omega)
    obtain ⟨w, e1, e2⟩ := hv _ _ (List.getElem?_eq_getElem hm)
    refine ⟨w, ?_, ?_⟩
    · rw [rot1 e0 (by omega), hlen]; exact e1
    · unfold nxt; rw [atZ_eq hm]; exact e2
  have posAt : ∀ i, i < ps.length → ∃ w, vs[i]? = some w ∧ PlB H Bz w (atZ ps i) := fun i hi => by
    obtain ⟨w, e1, e2⟩ := hv _ _ (List.getElem?_eq_getElem hi)
    exact ⟨w, e1, by rw [atZ_eq hi]; exact e2⟩
  have smAt : ∀ i, i < ps.length → Sm1 (atZ ps i) := fun i hi => by rw [atZ_eq hi]; exact sm _ (List.getElem_mem hi)
  have nxl : ∀ i, nxt ps i < ps.length := fun i => Nat.mod_lt _ (by omega)
  walk_at "rx"
  refine ⟨a, rfl, lc_enumE (xs := vs) (hq.same S2) (fun D i H' => Same H2 H' ∧ H' D = some (.lst (((List.range i).filter (kpE ps)).map fun k : Nat => V.int (k : Int)))) (fun D nD => ⟨Same.up nD, upd_same⟩) (fun D i H' _ _ ⟨z, _⟩ => (hq.same S2).same z) ?_ ?_⟩
  · rintro D i T x K1 hx nD ⟨S3, hD⟩ nT
    have hi : i < ps.length := hlen ▸ (List.getElem?_eq_some_iff.mp hx).1
    obtain ⟨x', e1, PX⟩ := posAt i hi
    rw [hx] at e1
    cases e1
    obtain ⟨y, e2, PY⟩ := endAt i hi
    have ST := Same.up (o := .tup [.int (i : Nat), x]) nT
    have hT : upd K1 T (.tup [.int (i : Nat), x]) T = some (.tup [.int (i : Nat), x]) := upd_same
    generalize upd K1 T (.tup [.int (i : Nat), x]) = K2 at ST hT ⊢
    have S4 := S3.trans ST
    have hD := ST _ _ hD
    have he := S4 _ _ he
    walk_at "rx"
    refine ⟨rfl, ?_⟩
    walk_at "rx"
    refine q_ixL (j := i) (SqL.of he) e2 ?_
    walk_at "rx"
    refine q_neB hB bB (PX.same (S2.trans S4)) (PY.same (S2.trans S4)) (smAt i hi) (smAt _ (nxl i)) ?_
    refine ⟨_, rfl, ?_⟩
    have ek : decide (atZ ps i ≠ atZ ps (nxt ps i)) = kpE ps i := rfl
    rw [ek, List.range_succ, List.filter_append, List.map_append]
    cases k : kpE ps i with
    | true =>
      rw [if_pos rfl]
      walk_at "rx"
      refine ⟨_, hD, ?_, Same.put S4 nD, ?_⟩
      · rw [List.length_map, sizeLine_eq]
        have := List.length_filter_le (kpE ps) (List.range i)
        rw [List.length_range] at this
        omega
      · rw [show ([i].filter (kpE ps)) = [i] by simp [k]]
        exact upd_same
    | false =>
      rw [if_neg Bool.false_ne_true]
      refine ⟨S4, ?_⟩
      rw [show ([i].filter (kpE ps)) = [] by simp [k], List.map_nil, List.append_nil]
      exact hD
  rintro kp H3 nk ⟨S3, hk⟩
  rw [hlen] at hk
  have hk : H3 kp = some (.lst ((kept ps).map fun k : Nat => V.int (k : Int))) := hk
  have he := S3 _ _ he
  have kl : (kept ps).length ≤ 100 := by
    have := List.length_filter_le (kpE ps) (List.range ps.length)
    rw [List.length_range] at this
    unfold kept
    omega
  generalize hks : ((kept ps).map fun k : Nat => V.int (k : Int)) = ks at hk
  have ksl : ks.length = (kept ps).length := by rw [← hks, List.length_map]
  have S03 := S2.trans S3
  walk_at "rx"
  refine q_slL hk fun q1 nq1 => ?_
  rw [show cutV ks (some 1) none = ks.drop 1 from cut_drop ks 1]
  have Sq1 := Same.up (o := .lst (ks.drop 1)) nq1
  have hq1 : upd H3 q1 (.lst (ks.drop 1)) q1 = some (.lst (ks.drop 1)) := upd_same
  generalize upd H3 q1 (.lst (ks.drop 1)) = H4 at Sq1 hq1 ⊢
  have hk4 := Sq1 _ _ hk
  walk_at "rx"
  refine q_slL hk4 fun q2 nq2 => ?_
  rw [show cutV ks none (some 1) = ks.take 1 from cut_take ks 1]
  have Sq2 := Same.up (o := .lst (ks.take 1)) nq2
  have hq2 : upd H4 q2 (.lst (ks.take 1)) q2 = some (.lst (ks.take 1)) := upd_same
  generalize upd H4 q2 (.lst (ks.take 1)) = H5 at Sq2 hq2 ⊢
  have hq1 := Sq2 _ _ hq1
  refine q_cat hq1 hq2 (by rw [List.length_drop, List.length_take]; omega) fun fo nfo => ?_
  have Sf := Same.up (o := .lst (ks.drop 1 ++ ks.take 1)) nfo
  have hf : upd H5 fo (.lst (ks.drop 1 ++ ks.take 1)) fo = some (.lst (ks.drop 1 ++ ks.take 1)) := upd_same
  generalize upd H5 fo (.lst (ks.drop 1 ++ ks.take 1)) = H6 at Sf hf ⊢
  have S36 := (Sq1.trans Sq2).trans Sf
  have S06 := S03.trans S36
  have hk := S36 _ _ hk
  have he := S36 _ _ he
  have lf : ks.length = (ks.drop 1 ++ ks.take 1).length := by rw [List.length_append, List.length_drop, List.length_take]; omega
  clear hk4 hq1 hq2
  walk_at "rx"
  refine ⟨kp, fo, ks, ks.drop 1 ++ ks.take 1, rfl, SqL.of hk, SqL.of hf, fun D nD => ?_⟩
  refine lc_zipL lf (fun i H' => Same H6 H' ∧ LE C_Edge Bz H' D ((List.range i).map (edg n ps))) ⟨Same.up nD, LE.nil upd_same⟩ (fun i H' ⟨z, _⟩ => ⟨SqL.of (z _ _ hk), SqL.of (z _ _ hf)⟩) ?_ ?_
  · rintro i x y T K1 hx hy ⟨S7, LD⟩ nT
    have hi : i < (kept ps).length := ksl ▸ (List.getElem?_eq_some_iff.mp hx).1
    have hm : (i + 1) % (kept ps).length < (kept ps).length := Nat.mod_lt _ (by omega)
    have ex : ∀ j, j < (kept ps).length → ks[j]? = some (.int (kAt ps j : Nat)) := fun j hj => by
      rw [← hks, List.getElem?_map, List.getElem?_eq_getElem hj, ← kAt_eq hj]
      rfl
    rw [ex i hi] at hx
    cases hx
    rw [rot1t (by omega), ksl, ex _ hm] at hy
    cases hy
    obtain ⟨ka, _⟩ := kAt_mem hi
    have ST := Same.up (o := .tup [.int (kAt ps i : Nat), .int (kAt ps ((i + 1) % (kept ps).length) : Nat)]) nT
    have hT : upd K1 T (.tup [.int (kAt ps i : Nat), .int (kAt ps ((i + 1) % (kept ps).length) : Nat)]) T = some (.tup [.int (kAt ps i : Nat), .int (kAt ps ((i + 1) % (kept ps).length) : Nat)]) := upd_same
    generalize upd K1 T (.tup [.int (kAt ps i : Nat), .int (kAt ps ((i + 1) % (kept ps).length) : Nat)]) = K2 at ST hT ⊢
    walk_at "rx"
    refine ⟨rfl, ?_⟩
    walk_at "rx"
    intro T1 n1
    have Sa := Same.up (o := .tup [.int (n : Int), .int (kAt ps i : Nat)]) n1
    have g1 : upd K2 T1 (.tup [.int (n : Int), .int (kAt ps i : Nat)]) T1 = some (.tup [.int (n : Int), .int (kAt ps i : Nat)]) := upd_same
    generalize upd K2 T1 (.tup [.int (n : Int), .int (kAt ps i : Nat)]) = K3 at Sa g1 ⊢
    walk_at "rx"
    intro T2 n2
    have Sb := Same.up (o := .tup [.int (n : Int), .int (kAt ps ((i + 1) % (kept ps).length) : Nat)]) n2
    have g2 : upd K3 T2 (.tup [.int (n : Int), .int (kAt ps ((i + 1) % (kept ps).length) : Nat)]) T2 = some (.tup [.int (n : Int), .int (kAt ps ((i + 1) % (kept ps).length) : Nat)]) := upd_same
    generalize upd K3 T2 (.tup [.int (n : Int), .int (kAt ps ((i + 1) % (kept ps).length) : Nat)]) = K4 at Sb g2 ⊢
    have g1 := Sb _ _ g1
    have S8 := ((S7.trans ST).trans Sa).trans Sb
    have LD := ((LD.same ST).same Sa).same Sb
    obtain ⟨w1, f1, P1⟩ := posAt _ ka
    obtain ⟨w2, f2, P2⟩ := endAt _ ka
    walk_at "rx"
    refine q_ixE ((hq.same S06).same S8) f1 ?_
    walk_at "rx"
    refine q_ixL (SqL.of (S8 _ _ he)) f2 ?_
    walk_at "rx"
    intro X dx nX ndx ne
    refine ⟨rfl, ?_⟩
    have SX : Same K4 (upd (upd K4 dx (.own X)) X (.ins C_Edge dx [])) := fun b o e => by
      rw [upd_ne (fun z => by rw [z, nX] at e; cases e), upd_ne (fun z => by rw [z, ndx] at e; cases e)]
      exact e
    have hX : (upd (upd K4 dx (.own X)) X (.ins C_Edge dx [])) X = some (.ins C_Edge dx []) := upd_same
    generalize upd (upd K4 dx (.own X)) X (.ins C_Edge dx []) = K5 at SX hX ⊢
    have SP := (S06.trans S8).trans SX
    refine ⟨X, dx, T1, T2, w1, w2, Bz, edg n ps i, rfl, hB, bB, hX, SX _ _ g1, SX _ _ g2, P1.same SP, P2.same SP, smAt _ ka, smAt _ (nxl _), fun K6 O E => ⟨rfl, ?_⟩⟩
    have S46 : Same K4 K6 := fun b o e => O b o (SX _ _ e) fun z => by rw [z, nX] at e; cases e
    have LD := LD.same S46
    obtain ⟨acc, e1, e2, LD⟩ := LD.join (.one E)
    refine ⟨acc, e1, ?_, Same.put (S8.trans S46) nD, ?_⟩
    · rw [e2, sizeLine_eq, List.length_map, List.length_range]
      omega
    · rw [List.range_succ, List.map_append]
      exact LD
  · rintro H7 ⟨S7, LD⟩
    rw [ksl] at LD
    exact q D H7 (S06.trans S7) LD

abbrev s__side : Stmt := topS 34
theorem sc__side : FnScope ["line", "whole", "found"] ["line", "whole"] (defScope s__side) := ⟨rfl, rfl, rfl, by decide +kernel, rfl, by decide +kernel, by decide +kernel⟩
theorem fn__side {f : Addr} {fd : FuncData} (F : Fun K "_side" "_side" s__side f fd) (B : Bl mg)  : FnOk P w K mg base CX0 1 f fd ["line", "whole"] (spN 2 spSide) := by
  refine fnN F sc__side (fun cdv A outer s H vs Q E hr h => ?_)
  obtain ⟨t1, t2, l, w, rfl, h1, h2, bl, bw, q⟩ := h
  refine ⟨_, (pss_cons (ps_set (i := 2) sc__side.nd rfl (.inl rfl) (pe_op op_add (pe_op op_add (pe_op op_mulW (pe_ix ix_tup (pv 0) pe_int (fun _ _ => rfl)) (pe_ix ix_tup (pv 1) pe_int (fun _ _ => rfl))) (pe_op op_mulW (pe_ix ix_tup (pv 0) pe_int (fun _ _ => rfl)) (pe_ix ix_tup (pv 1) pe_int (fun _ _ => rfl)))) (pe_op op_mulW (pe_ix ix_tup (pv 0) pe_int (fun _ _ => rfl)) (pe_ix ix_tup (pv 1) pe_int (fun _ _ => rfl)))))
      (pss_cons (ps_if (pt_cmpR op_eqI (pv 2) pe_int (nomark _)) (pss_one (ps_ret pe_int)) pss_nil)
      (pss_one (ps_ret (pe_ifExp (pt_cmpR op_gt (pv 2) pe_int (nomark _)) pe_int (pe_un un_neg pe_int)))))), ?_⟩
  obtain ⟨u1, u2, u3⟩ := l
  obtain ⟨w1, w2, w3⟩ := w
  obtain ⟨b1, b2, b3⟩ := bl
  obtain ⟨e1, e2, e3⟩ := bw
  have h1 : H t1 = some (.tup [.int u1, .int u2, .int u3]) := h1
  have h2 : H t2 = some (.tup [.int w1, .int w2, .int w3]) := h2
  walk_at "rx"
  refine q_I (mulW b1 e1 (by decide)) ?_
  walk_at "rx"
  refine q_I (mulW b2 e2 (by decide)) ?_
  walk_at "rx"
  refine q_I (mulW b3 e3 (by decide)) ?_
  walk_at "rx"
  have q := q H (Same.refl H)
  unfold valW at q
  simp only at q
  generalize u1 * w1 + u2 * w2 + u3 * w3 = x at q ⊢
  rw [← sgn_by] at q
  refine q_dec (fun k => ?_) (fun k => ?_)
  · rw [if_pos k] at q
    walk_at "rx"
    exact q
  · rw [if_neg k] at q
    walk_at "rx"
    refine q_dec (fun k2 => ?_) (fun k2 => ?_)
    · rw [if_pos k2] at q
      walk_at "rx"
      exact q
    · rw [if_neg k2] at q
      walk_at "rx"
      exact q

abbrev s__are_apart : Stmt := topS 35
theorem sc__are_apart : FnScope ["one", "other", "west", "east", "south", "north", "other_west", "other_east", "other_south", "other_north"] ["one", "other"] (defScope s__are_apart) := ⟨rfl, rfl, rfl, by decide +kernel, rfl, by decide +kernel, by decide +kernel⟩
theorem fn__are_apart {f : Addr} {fd : FuncData} (F : Fun K "_are_apart" "_are_apart" s__are_apart f fd) (B : Bl mg) {C_Edge : Addr} (cl_Edge : Cls K C_Edge) (na_Edge_box : NoAttr K C_Edge "box") : FnOk P w K mg base CX0 1 f fd ["one", "other"] (spN 2 (spEd2 C_Edge apE)) := by
  refine fnN F sc__are_apart (fun cdv A outer s H vs Q E hr h => ?_)
  obtain ⟨v, w, Bz, x, y, rfl, hB, bB, E1, E2, q⟩ := h
  refine ⟨_, (pss_cons (ps_asg (pe_fld (pv 0) rfl) (pg_tup (by rfl) (pgs_cons (pg_name (i := 2) sc__are_apart.nd rfl (.inl rfl)) (pgs_cons (pg_name (i := 3) sc__are_apart.nd rfl (.inl rfl)) (pgs_cons (pg_name (i := 4) sc__are_apart.nd rfl (.inl rfl)) (pgs_cons (pg_name (i := 5) sc__are_apart.nd rfl (.inl rfl)) pgs_nil))))))
      (pss_cons (ps_asg (pe_fld (pv 1) rfl) (pg_tup (by rfl) (pgs_cons (pg_name (i := 6) sc__are_apart.nd rfl (.inl rfl)) (pgs_cons (pg_name (i := 7) sc__are_apart.nd rfl (.inl rfl)) (pgs_cons (pg_name (i := 8) sc__are_apart.nd rfl (.inl rfl)) (pgs_cons (pg_name (i := 9) sc__are_apart.nd rfl (.inl rfl)) pgs_nil))))))
      (pss_one (ps_ret (pe_or (pe_cmpR op_lt (pv 3) (pv 6) (nomark _)) (pe_or (pe_cmpR op_lt (pv 7) (pv 2) (nomark _)) (pe_or (pe_cmpR op_lt (pv 5) (pv 8) (nomark _)) (pe_one (pe_cmpR op_lt (pv 9) (pv 4) (nomark _)))))))))), ?_⟩
  obtain ⟨a, dx, ta, tf, vb, ve, tb, te, tl, tx, u, z, rfl, h1, _, _, _, _, _, _, _, _, _, h2, _, _⟩ := E1.ex
  obtain ⟨a', dx', ta', tf', vb', ve', tb', te', tl', tx', u', z', rfl, h1', _, _, _, _, _, _, _, _, _, h2', _, _⟩ := E2.ex
  have h2 : H tx = _ := h2
  have h2' : H tx' = _ := h2'
  walk_at "rx"
  have q := q H (Same.refl H)
  unfold apE apartF at q
  generalize x.P.1.fdiv Bz = p1 at q ⊢
  generalize x.Q.1.fdiv Bz = p2 at q ⊢
  generalize x.P.2.fdiv Bz = p3 at q ⊢
  generalize x.Q.2.fdiv Bz = p4 at q ⊢
  generalize y.P.1.fdiv Bz = r1 at q ⊢
  generalize y.Q.1.fdiv Bz = r2 at q ⊢
  generalize y.P.2.fdiv Bz = r3 at q ⊢
  generalize y.Q.2.fdiv Bz = r4 at q ⊢
  revert q
  cases decide (max p1 p2 < min r1 r2) <;> intro q
  · rw [if_neg Bool.false_ne_true]
    walk_at "rx"
    revert q
    cases decide (max r1 r2 < min p1 p2) <;> intro q
    · rw [if_neg Bool.false_ne_true]
      walk_at "rx"
      revert q
      cases decide (max p3 p4 < min r3 r4) <;> intro q
      · rw [if_neg Bool.false_ne_true]
        walk_at "rx"
        exact q
      · exact q
    · exact q
  · exact q

abbrev s__meet : Stmt := topS 36
theorem sc__meet : FnScope ["one", "other", "low", "high", "other_low", "other_high"] ["one", "other"] (defScope s__meet) := ⟨rfl, rfl, rfl, by decide +kernel, rfl, by decide +kernel, by decide +kernel⟩
theorem fn__meet {f : Addr} {fd : FuncData} (F : Fun K "_meet" "_meet" s__meet f fd) (B : Bl mg) (cq_less : Cal P w K mg base 4 "less" ["one", "other"] spLessQ) : FnOk P w K mg base CX0 5 f fd ["one", "other"] (spN 2 spMeet) := by
  refine fnN F sc__meet (fun cdv A outer s H vs Q E hr h => ?_)
  obtain ⟨t1, t2, u1, w1, u2, w2, Bz, a, b, c, d, rfl, h1, h2, N1, N2, N3, N4, hB, bB, ⟨b1, b2, b3, b4⟩, q⟩ := h
  refine ⟨_, (pss_cons (ps_asg (pe_ifExp (pt_val (pe_cal cq_less hr (by decide) (by rfl) (pa_cons (pe_ix ix_tup (pv 0) pe_int (fun _ _ => rfl)) (pa_cons (pe_ix ix_tup (pv 0) pe_int (fun _ _ => rfl)) pa_nil)))) (pv 0) (pe_revP (pv 0))) (pg_tup (by rfl) (pgs_cons (pg_name (i := 2) sc__meet.nd rfl (.inl rfl)) (pgs_cons (pg_name (i := 3) sc__meet.nd rfl (.inl rfl)) pgs_nil))))
      (pss_cons (ps_asg (pe_ifExp (pt_val (pe_cal cq_less hr (by decide) (by rfl) (pa_cons (pe_ix ix_tup (pv 1) pe_int (fun _ _ => rfl)) (pa_cons (pe_ix ix_tup (pv 1) pe_int (fun _ _ => rfl)) pa_nil)))) (pv 1) (pe_revP (pv 1))) (pg_tup (by rfl) (pgs_cons (pg_name (i := 4) sc__meet.nd rfl (.inl rfl)) (pgs_cons (pg_name (i := 5) sc__meet.nd rfl (.inl rfl)) pgs_nil))))
      (pss_one (ps_ret (pe_and (pe_not (pe_cal cq_less hr (by decide) (by rfl) (pa_cons (pv 3) (pa_cons (pv 4) pa_nil)))) (pe_one (pe_not (pe_cal cq_less hr (by decide) (by rfl) (pa_cons (pv 5) (pa_cons (pv 2) pa_nil)))))))))), ?_⟩
  walk_at "rx"
  refine ⟨u1, w1, _, _, rfl, N1, N2, (bq1 hB bB b1).mono (by decide), (bq1 hB bB b2).mono (by decide), fun K0 S0 => ?_⟩
  rw [less_B hB]
  have h1 := S0 _ _ h1
  refine ⟨_, rfl, ?_⟩
  by_cases k1 : a < b
  · rw [if_pos (decide_eq_true k1)]
    have h2 := S0 _ _ h2
    walk_at "rx"
    refine ⟨u2, w2, _, _, rfl, N3.same S0, N4.same S0, (bq1 hB bB b3).mono (by decide), (bq1 hB bB b4).mono (by decide), fun K1 S1 => ?_⟩
    rw [less_B hB]
    have SA := Same.trans S0 S1
    have h2 := S1 _ _ h2
    refine ⟨_, rfl, ?_⟩
    by_cases k2 : c < d
    · rw [if_pos (decide_eq_true k2)]
      walk_at "rx"
      refine ⟨w1, u2, _, _, rfl, N2.same SA, N3.same SA, (bq1 hB bB b2).mono (by decide), (bq1 hB bB b3).mono (by decide), fun K3 S3 => ?_⟩
      rw [less_B hB]
      have q := fun K S => q K S
      rw [meet_by (.inl ⟨rfl, rfl, by omega⟩) (.inl ⟨rfl, rfl, by omega⟩)] at q
      revert q
      cases decide (b < c) <;> intro q
      · walk_at "rx"
        refine ⟨w2, u1, _, _, rfl, (N4.same SA).same S3, (N1.same SA).same S3, (bq1 hB bB b4).mono (by decide), (bq1 hB bB b1).mono (by decide), fun K4 S4 => ?_⟩
        rw [less_B hB]
        walk_at "rx"
        exact q _ ((SA.trans S3).trans S4)
      · walk_at "rx"
        exact q _ (SA.trans S3)
    · rw [if_neg (fun z => k2 (of_decide_eq_true z))]
      walk_at "rx"
      refine ⟨t2, u2, w2, rfl, h2, fun p np => ?_⟩
      have SB := SA.trans (Same.up (o := .tup [w2, u2]) np)
      have hp : upd K1 p (.tup [w2, u2]) p = some (.tup [w2, u2]) := upd_same
      generalize upd K1 p (.tup [w2, u2]) = K2 at SB hp ⊢
      walk_at "rx"
      refine ⟨w1, w2, _, _, rfl, N2.same SB, N4.same SB, (bq1 hB bB b2).mono (by decide), (bq1 hB bB b4).mono (by decide), fun K3 S3 => ?_⟩
      rw [less_B hB]
      have q := fun K S => q K S
      rw [meet_by (.inl ⟨rfl, rfl, by omega⟩) (.inr ⟨rfl, rfl, by omega⟩)] at q
      revert q
      cases decide (b < d) <;> intro q
      · walk_at "rx"
        refine ⟨u2, u1, _, _, rfl, (N3.same SB).same S3, (N1.same SB).same S3, (bq1 hB bB b3).mono (by decide), (bq1 hB bB b1).mono (by decide), fun K4 S4 => ?_⟩
        rw [less_B hB]
        walk_at "rx"
        exact q _ ((SB.trans S3).trans S4)
      · walk_at "rx"
        exact q _ (SB.trans S3)
  · rw [if_neg (fun z => k1 (of_decide_eq_true z))]
    walk_at "rx"
    refine ⟨t1, u1, w1, rfl, h1, fun p0 np0 => ?_⟩
    have SX := S0.trans (Same.up (o := .tup [w1, u1]) np0)
    have hp0 : upd K0 p0 (.tup [w1, u1]) p0 = some (.tup [w1, u1]) := upd_same
    generalize upd K0 p0 (.tup [w1, u1]) = KX at SX hp0 ⊢
    have h2 := SX _ _ h2
    walk_at "rx"
    refine ⟨u2, w2, _, _, rfl, N3.same SX, N4.same SX, (bq1 hB bB b3).mono (by decide), (bq1 hB bB b4).mono (by decide), fun K1 S1 => ?_⟩
    rw [less_B hB]
    have SA := Same.trans SX S1
    have h2 := S1 _ _ h2
    refine ⟨_, rfl, ?_⟩
    by_cases k2 : c < d
    · rw [if_pos (decide_eq_true k2)]
      walk_at "rx"
      refine ⟨u1, u2, _, _, rfl, N1.same SA, N3.same SA, (bq1 hB bB b1).mono (by decide), (bq1 hB bB b3).mono (by decide), fun K3 S3 => ?_⟩
      rw [less_B hB]
      have q := fun K S => q K S
      rw [meet_by (.inr ⟨rfl, rfl, by omega⟩) (.inl ⟨rfl, rfl, by omega⟩)] at q
      revert q
      cases decide (a < c) <;> intro q
      · walk_at "rx"
        refine ⟨w2, w1, _, _, rfl, (N4.same SA).same S3, (N2.same SA).same S3, (bq1 hB bB b4).mono (by decide), (bq1 hB bB b2).mono (by decide), fun K4 S4 => ?_⟩
        rw [less_B hB]
        walk_at "rx"
        exact q _ ((SA.trans S3).trans S4)
      · walk_at "rx"
        exact q _ (SA.trans S3)
    · rw [if_neg (fun z => k2 (of_decide_eq_true z))]
      walk_at "rx"
      refine ⟨t2, u2, w2, rfl, h2, fun p np => ?_⟩
      have SB := SA.trans (Same.up (o := .tup [w2, u2]) np)
      have hp : upd K1 p (.tup [w2, u2]) p = some (.tup [w2, u2]) := upd_same
      generalize upd K1 p (.tup [w2, u2]) = K2 at SB hp ⊢
      walk_at "rx"
      refine ⟨u1, w2, _, _, rfl, N1.same SB, N4.same SB, (bq1 hB bB b1).mono (by decide), (bq1 hB bB b4).mono (by decide), fun K3 S3 => ?_⟩
      rw [less_B hB]
      have q := fun K S => q K S
      rw [meet_by (.inr ⟨rfl, rfl, by omega⟩) (.inr ⟨rfl, rfl, by omega⟩)] at q
      revert q
      cases decide (a < d) <;> intro q
      · walk_at "rx"
        refine ⟨u2, w1, _, _, rfl, (N3.same SB).same S3, (N2.same SB).same S3, (bq1 hB bB b3).mono (by decide), (bq1 hB bB b2).mono (by decide), fun K4 S4 => ?_⟩
        rw [less_B hB]
        walk_at "rx"
        exact q _ ((SB.trans S3).trans S4)
      · walk_at "rx"
        exact q _ (SB.trans S3)

abbrev s__touch : Stmt := topS 37
theorem sc__touch : FnScope ["one", "other", "ahead", "behind", "xs"] ["one", "other"] (defScope s__touch) := ⟨rfl, rfl, rfl, by decide +kernel, rfl, by decide +kernel, by decide +kernel⟩
theorem fn__touch {f : Addr} {fd : FuncData} (F : Fun K "_touch" "_touch" s__touch f fd) (B : Bl mg) {C_Edge : Addr} (cl_Edge : Cls K C_Edge) (na_Edge_whole_begin : NoAttr K C_Edge "whole_begin") (na_Edge_line : NoAttr K C_Edge "line") (na_Edge_whole_end : NoAttr K C_Edge "whole_end") (na_Edge_end : NoAttr K C_Edge "end") (na_Edge_begin : NoAttr K C_Edge "begin") (c__side : Cal P w K mg base 1 "_side" ["line", "whole"] spSide) (c__meet : Cal P w K mg base 5 "_meet" ["one", "other"] spMeet) (c__are_apart : Cal P w K mg base 1 "_are_apart" ["one", "other"] (spEd2 C_Edge apE)) : FnOk P w K mg base CX0 6 f fd ["one", "other"] (spN 2 (spEd2 C_Edge toE)) := by
  refine fnN F sc__touch (fun cdv A outer s H vs Q E hr h => ?_)
  obtain ⟨v, w, Bz, x, y, rfl, hB, bB, E1, E2, q⟩ := h
  refine ⟨_, (pss_cons (ps_if (pt_val (pe_cal c__are_apart hr (by decide) (by rfl) (pa_cons (pv 0) (pa_cons (pv 1) pa_nil)))) (pss_one (ps_ret pe_bl)) pss_nil)
      (pss_cons (ps_set (i := 2) sc__touch.nd rfl (.inl rfl) (pe_cal c__side hr (by decide) (by rfl) (pa_cons (pe_fld (pv 0) rfl) (pa_cons (pe_fld (pv 1) rfl) pa_nil))))
      (pss_cons (ps_set (i := 3) sc__touch.nd rfl (.inl rfl) (pe_cal c__side hr (by decide) (by rfl) (pa_cons (pe_fld (pv 0) rfl) (pa_cons (pe_fld (pv 1) rfl) pa_nil))))
      (pss_cons (ps_if (pt_cmpR op_gt (pe_op op_mulW (pv 2) (pv 3)) pe_int (nomark _)) (pss_one (ps_ret pe_bl)) pss_nil)
      (pss_cons (ps_if (PW.pt (pw_and (pt_cmpR op_eqI (pv 2) pe_int (nomark _)) (pw_and1 (pt_cmpR op_eqI (pv 3) pe_int (nomark _))))) (pss_cons (ps_set (i := 4) sc__touch.nd rfl (.inl rfl) (pe_cal c__meet hr (by decide) (by rfl) (pa_cons (pe_tup (pa_cons (pe_ix ix_tup (pe_fld (pv 0) rfl) pe_int (fun _ _ => rfl)) (pa_cons (pe_ix ix_tup (pe_fld (pv 0) rfl) pe_int (fun _ _ => rfl)) pa_nil))) (pa_cons (pe_tup (pa_cons (pe_ix ix_tup (pe_fld (pv 1) rfl) pe_int (fun _ _ => rfl)) (pa_cons (pe_ix ix_tup (pe_fld (pv 1) rfl) pe_int (fun _ _ => rfl)) pa_nil))) pa_nil))))
      (pss_one (ps_ret (pe_and (pv 4) (pe_one (pe_cal c__meet hr (by decide) (by rfl) (pa_cons (pe_tup (pa_cons (pe_ix ix_tup (pe_fld (pv 0) rfl) pe_int (fun _ _ => rfl)) (pa_cons (pe_ix ix_tup (pe_fld (pv 0) rfl) pe_int (fun _ _ => rfl)) pa_nil))) (pa_cons (pe_tup (pa_cons (pe_ix ix_tup (pe_fld (pv 1) rfl) pe_int (fun _ _ => rfl)) (pa_cons (pe_ix ix_tup (pe_fld (pv 1) rfl) pe_int (fun _ _ => rfl)) pa_nil))) pa_nil)))))))) pss_nil)
      (pss_one (ps_ret (pe_cmpR op_le (pe_op op_mulW (pe_cal c__side hr (by decide) (by rfl) (pa_cons (pe_fld (pv 1) rfl) (pa_cons (pe_fld (pv 0) rfl) pa_nil))) (pe_cal c__side hr (by decide) (by rfl) (pa_cons (pe_fld (pv 1) rfl) (pa_cons (pe_fld (pv 0) rfl) pa_nil)))) pe_int (nomark _))))))))), ?_⟩
  obtain ⟨a, dx, ta, tf, vb, ve, tb, te, tl, tx, u, z, rfl, h1, _, _, ⟨t1, x1, y1, rfl, k1, N1, N2⟩, ⟨t2, x2, y2, rfl, k2, N3, N4⟩, hu, hz, W1, W2, hl, _, s1, s2⟩ := E1.ex
  obtain ⟨a', dx', ta', tf', vb', ve', tb', te', tl', tx', u', z', rfl, h1', _, _, ⟨t3, x3, y3, rfl, k3, N5, N6⟩, ⟨t4, x4, y4, rfl, k4, N7, N8⟩, hu', hz', W3, W4, hl', _, s3, s4⟩ := E2.ex
  walk_at "rx"
  refine ⟨.ref a, .ref a', Bz, x, y, rfl, hB, bB, E1, E2, fun H1 S1 => ?_⟩
  refine ⟨_, rfl, ?_⟩
  by_cases k : apartF Bz x.P x.Q y.P y.Q = true
  · have q : ∀ H', Same H H' → Q (.bl false) H' := fun H' s => by have := q H' s; unfold toE at this; rw [if_pos k] at this; exact this
    rw [if_pos (show apE Bz x y = true from k)]
    walk_at "rx"
    exact q _ S1
  have q : ∀ H', Same H H' → Q (.bl (touchP x.P x.Q y.P y.Q)) H' := fun H' s => by have := q H' s; unfold toE at this; rw [if_neg k] at this; exact this
  rw [if_neg (show ¬ apE Bz x y = true from k)]
  have h1 := S1 _ _ h1
  have h1' := S1 _ _ h1'
  walk_at "rx"
  refine ⟨tl, tb', lineW u z, u', rfl, S1 _ _ hl, S1 _ _ hu', line_b W1.2 W2.2, W3.2, fun H2 S2 => ?_⟩
  rw [side_eq hB W1.1 W2.1 W3.1]
  have h1 := S2 _ _ h1
  have h1' := S2 _ _ h1'
  have S2 := S1.trans S2
  walk_at "rx"
  refine ⟨tl, te', lineW u z, z', rfl, S2 _ _ hl, S2 _ _ hz', line_b W1.2 W2.2, W4.2, fun H3 S3 => ?_⟩
  rw [side_eq hB W1.1 W2.1 W4.1]
  have h1 := S3 _ _ h1
  have h1' := S3 _ _ h1'
  have S3 := S2.trans S3
  unfold touchP at q
  walk_at "rx"
  refine q_I (mulW (sgn_bt (Nat.le_refl 1)) (sgn_bt (Nat.le_refl 1)) (by decide)) ?_
  walk_at "rx"
  refine q_dec (fun j => ?_) (fun j => ?_)
  · walk_at "rx"
    have q := q _ S3
    rw [if_pos j] at q
    exact q
  have q := fun K S => q K S
  simp only [if_neg j] at q
  walk_at "rx"
  by_cases i1 : sgn (orient x.P x.Q y.P) = 0
  · rw [if_pos (decide_eq_true i1)]
    walk_at "rx"
    by_cases i2 : sgn (orient x.P x.Q y.Q) = 0
    · rw [if_pos (decide_eq_true i2)]
      simp only [if_pos (⟨i1, i2⟩ : _ ∧ _)] at q
      have k1 := S3 _ _ k1
      have k2 := S3 _ _ k2
      have k3 := S3 _ _ k3
      have k4 := S3 _ _ k4
      walk_at "rx"
      intro T1 n1
      have Sa := Same.up (o := .tup [x1, x2]) n1
      have g1 : upd H3 T1 (.tup [x1, x2]) T1 = some (.tup [x1, x2]) := upd_same
      generalize upd H3 T1 (.tup [x1, x2]) = K1 at Sa g1 ⊢
      have h1 := Sa _ _ h1
      have h1' := Sa _ _ h1'
      have k1 := Sa _ _ k1
      have k2 := Sa _ _ k2
      have k3 := Sa _ _ k3
      have k4 := Sa _ _ k4
      walk_at "rx"
      intro T2 n2
      have Sb := Same.up (o := .tup [x3, x4]) n2
      have g2 : upd K1 T2 (.tup [x3, x4]) T2 = some (.tup [x3, x4]) := upd_same
      generalize upd K1 T2 (.tup [x3, x4]) = K2 at Sb g2 ⊢
      have SB := (S3.trans Sa).trans Sb
      walk_at "rx"
      refine ⟨T1, T2, x1, x2, x3, x4, Bz, _, _, _, _, rfl, Sb _ _ g1, g2, N1.same SB, N3.same SB, N5.same SB, N7.same SB, hB, bB, ⟨s1.1, s2.1, s3.1, s4.1⟩, fun K3 Sc => ?_⟩
      have SC := SB.trans Sc
      have Sd := Sb.trans Sc
      have h1 := Sd _ _ h1
      have h1' := Sd _ _ h1'
      have k1 := Sd _ _ k1
      have k2 := Sd _ _ k2
      have k3 := Sd _ _ k3
      have k4 := Sd _ _ k4
      walk_at "rx"
      by_cases m1 : meetI x.P.1 x.Q.1 y.P.1 y.Q.1 = true
      · rw [if_pos m1]
        rw [m1] at q
        walk_at "rx"
        intro T1 n1
        have Sa := Same.up (o := .tup [y1, y2]) n1
        have g1 : upd K3 T1 (.tup [y1, y2]) T1 = some (.tup [y1, y2]) := upd_same
        generalize upd K3 T1 (.tup [y1, y2]) = K4 at Sa g1 ⊢
        have h1 := Sa _ _ h1
        have h1' := Sa _ _ h1'
        have k1 := Sa _ _ k1
        have k2 := Sa _ _ k2
        have k3 := Sa _ _ k3
        have k4 := Sa _ _ k4
        walk_at "rx"
        intro T2 n2
        have Sb := Same.up (o := .tup [y3, y4]) n2
        have g2 : upd K4 T2 (.tup [y3, y4]) T2 = some (.tup [y3, y4]) := upd_same
        generalize upd K4 T2 (.tup [y3, y4]) = K5 at Sb g2 ⊢
        have SB := (SC.trans Sa).trans Sb
        walk_at "rx"
        refine ⟨T1, T2, y1, y2, y3, y4, Bz, _, _, _, _, rfl, Sb _ _ g1, g2, N2.same SB, N4.same SB, N6.same SB, N8.same SB, hB, bB, ⟨s1.2, s2.2, s3.2, s4.2⟩, fun K6 Sc => ?_⟩
        have SC := SB.trans Sc
        walk_at "rx"
        exact q _ SC
      · rw [if_neg m1]
        rw [Bool.not_eq_true] at m1
        rw [m1] at q
        walk_at "rx"
        exact q _ SC
    · rw [if_neg (fun z => i2 (of_decide_eq_true z))]
      simp only [if_neg (fun (z : sgn (orient x.P x.Q y.P) = 0 ∧ sgn (orient x.P x.Q y.Q) = 0) => i2 z.2)] at q
      walk_at "rx"
      refine ⟨tl', tb, lineW u' z', u, rfl, S3 _ _ hl', S3 _ _ hu, line_b W3.2 W4.2, W1.2, fun H4 S4 => ?_⟩
      rw [side_eq hB W3.1 W4.1 W1.1]
      have h1 := S4 _ _ h1
      have h1' := S4 _ _ h1'
      have S4 := S3.trans S4
      walk_at "rx"
      refine ⟨tl', te, lineW u' z', z, rfl, S4 _ _ hl', S4 _ _ hz, line_b W3.2 W4.2, W2.2, fun H5 S5 => ?_⟩
      rw [side_eq hB W3.1 W4.1 W2.1]
      walk_at "rx"
      refine q_I (mulW (sgn_bt (Nat.le_refl 1)) (sgn_bt (Nat.le_refl 1)) (by decide)) ?_
      walk_at "rx"
      exact q _ (S4.trans S5)
  · rw [if_neg (fun z => i1 (of_decide_eq_true z))]
    simp only [if_neg (fun (z : sgn (orient x.P x.Q y.P) = 0 ∧ sgn (orient x.P x.Q y.Q) = 0) => i1 z.1)] at q
    walk_at "rx"
    refine ⟨tl', tb, lineW u' z', u, rfl, S3 _ _ hl', S3 _ _ hu, line_b W3.2 W4.2, W1.2, fun H4 S4 => ?_⟩
    rw [side_eq hB W3.1 W4.1 W1.1]
    have h1 := S4 _ _ h1
    have h1' := S4 _ _ h1'
    have S4 := S3.trans S4
    walk_at "rx"
    refine ⟨tl', te, lineW u' z', z, rfl, S4 _ _ hl', S4 _ _ hz, line_b W3.2 W4.2, W2.2, fun H5 S5 => ?_⟩
    rw [side_eq hB W3.1 W4.1 W2.1]
    walk_at "rx"
    refine q_I (mulW (sgn_bt (Nat.le_refl 1)) (sgn_bt (Nat.le_refl 1)) (by decide)) ?_
    walk_at "rx"
    exact q _ (S4.trans S5)

abbrev s__folds_back : Stmt := topS 38
theorem sc__folds_back : FnScope ["one", "other", "x", "y", "back_x", "back_y", "on_x", "on_y", "east", "north"] ["one", "other"] (defScope s__folds_back) := ⟨rfl, rfl, rfl, by decide +kernel, rfl, by decide +kernel, by decide +kernel⟩
theorem fn__folds_back {f : Addr} {fd : FuncData} (F : Fun K "_folds_back" "_folds_back" s__folds_back f fd) (B : Bl mg) {C_Edge : Addr} (cl_Edge : Cls K C_Edge) (na_Edge_end : NoAttr K C_Edge "end") (na_Edge_begin : NoAttr K C_Edge "begin") (na_Edge_whole_end : NoAttr K C_Edge "whole_end") (na_Edge_line : NoAttr K C_Edge "line") (cq_sign_of : Cal P w K mg base 4 "sign_of" ["number"] spSignQ) (cq_plus : Cal P w K mg base 4 "plus" ["one", "other"] (sp2Q (· + ·))) (cq_times : Cal P w K mg base 4 "times" ["one", "other"] (sp2Q (· * ·))) (cq_minus : Cal P w K mg base 4 "minus" ["one", "other"] (sp2Q (· - ·))) (c__side : Cal P w K mg base 1 "_side" ["line", "whole"] spSide) : FnOk P w K mg base CX0 5 f fd ["one", "other"] (spN 2 (spEd2 C_Edge foE)) := by
  refine fnN F sc__folds_back (fun cdv A outer s H vs Q E hr h => ?_)
  obtain ⟨v, w, Bz, x, y, rfl, hB, bB, E1, E2, q⟩ := h
  refine ⟨_, (pss_cons (ps_if (pt_cmpR op_neI (pe_cal c__side hr (by decide) (by rfl) (pa_cons (pe_fld (pv 0) rfl) (pa_cons (pe_fld (pv 1) rfl) pa_nil))) pe_int (nomark _)) (pss_one (ps_ret pe_bl)) pss_nil)
      (pss_cons (ps_asg (pe_fld (pv 1) rfl) (pg_tup (by rfl) (pgs_cons (pg_name (i := 2) sc__folds_back.nd rfl (.inl rfl)) (pgs_cons (pg_name (i := 3) sc__folds_back.nd rfl (.inl rfl)) pgs_nil))))
      (pss_cons (ps_asg (pe_fld (pv 0) rfl) (pg_tup (by rfl) (pgs_cons (pg_name (i := 4) sc__folds_back.nd rfl (.inl rfl)) (pgs_cons (pg_name (i := 5) sc__folds_back.nd rfl (.inl rfl)) pgs_nil))))
      (pss_cons (ps_asg (pe_fld (pv 1) rfl) (pg_tup (by rfl) (pgs_cons (pg_name (i := 6) sc__folds_back.nd rfl (.inl rfl)) (pgs_cons (pg_name (i := 7) sc__folds_back.nd rfl (.inl rfl)) pgs_nil))))
      (pss_cons (ps_set (i := 8) sc__folds_back.nd rfl (.inl rfl) (pe_cal cq_times hr (by decide) (by rfl) (pa_cons (pe_cal cq_minus hr (by decide) (by rfl) (pa_cons (pv 4) (pa_cons (pv 2) pa_nil))) (pa_cons (pe_cal cq_minus hr (by decide) (by rfl) (pa_cons (pv 6) (pa_cons (pv 2) pa_nil))) pa_nil))))
      (pss_cons (ps_set (i := 9) sc__folds_back.nd rfl (.inl rfl) (pe_cal cq_times hr (by decide) (by rfl) (pa_cons (pe_cal cq_minus hr (by decide) (by rfl) (pa_cons (pv 5) (pa_cons (pv 3) pa_nil))) (pa_cons (pe_cal cq_minus hr (by decide) (by rfl) (pa_cons (pv 7) (pa_cons (pv 3) pa_nil))) pa_nil))))
      (pss_one (ps_ret (pe_cmpR op_gt (pe_cal cq_sign_of hr (by decide) (by rfl) (pa_cons (pe_cal cq_plus hr (by decide) (by rfl) (pa_cons (pv 8) (pa_cons (pv 9) pa_nil))) pa_nil)) pe_int (nomark _)))))))))), ?_⟩
  obtain ⟨a, dx, ta, tf, vb, ve, tb, te, tl, tx, u, z, rfl, h1, _, _, ⟨t1, x1, y1, rfl, k1, N1, N2⟩, ⟨t2, x2, y2, rfl, k2, N3, N4⟩, hu, hz, W1, W2, hl, _, s1, s2⟩ := E1.ex
  obtain ⟨a', dx', ta', tf', vb', ve', tb', te', tl', tx', u', z', rfl, h1', _, _, ⟨t3, x3, y3, rfl, k3, N5, N6⟩, ⟨t4, x4, y4, rfl, k4, N7, N8⟩, hu', hz', W3, W4, hl', _, s3, s4⟩ := E2.ex
  walk_at "rx"
  refine ⟨tl, te', lineW u z, z', rfl, hl, hz', line_b W1.2 W2.2, W4.2, fun H1 S1 => ?_⟩
  rw [side_eq hB W1.1 W2.1 W4.1]
  have h1 := S1 _ _ h1
  have h1' := S1 _ _ h1'
  have k1 := S1 _ _ k1
  have k2 := S1 _ _ k2
  have k3 := S1 _ _ k3
  have k4 := S1 _ _ k4
  unfold foE foldG at q
  walk_at "rx"
  have q := fun K S => q K S
  by_cases i : sgn (orient x.P x.Q y.Q) = 0
  · rw [if_neg (by rw [decide_eq_true i]; decide)]
    rw [decide_eq_true i] at q
    have b1 := bq1 hB bB s1.1
    have b2 := bq1 hB bB s1.2
    have b5 := bq1 hB bB s3.1
    have b6 := bq1 hB bB s3.2
    have b7 := bq1 hB bB s4.1
    have b8 := bq1 hB bB s4.2
    walk_at "rx"
    refine ⟨x1, x3, _, _, rfl, N1.same S1, N5.same S1, b1.mono (by decide), b5.mono (by decide), fun z1 H2 S2 M1 => ?_⟩
    have S12 := S1.trans S2
    walk_at "rx"
    refine ⟨x4, x3, _, _, rfl, N7.same S12, N5.same S12, b7.mono (by decide), b5.mono (by decide), fun z2 H3 S3 M2 => ?_⟩
    have S13 := S12.trans S3
    walk_at "rx"
    refine ⟨z1, z2, _, _, rfl, M1.same S3, M2, (b1.sub b5).mono (by decide), (b7.sub b5).mono (by decide), fun z3 H4 S4 M3 => ?_⟩
    have S14 := S13.trans S4
    walk_at "rx"
    refine ⟨y1, y3, _, _, rfl, N2.same S14, N6.same S14, b2.mono (by decide), b6.mono (by decide), fun z4 H5 S5 M4 => ?_⟩
    have S15 := S14.trans S5
    walk_at "rx"
    refine ⟨y4, y3, _, _, rfl, N8.same S15, N6.same S15, b8.mono (by decide), b6.mono (by decide), fun z5 H6 S6 M5 => ?_⟩
    have S16 := S15.trans S6
    walk_at "rx"
    refine ⟨z4, z5, _, _, rfl, M4.same S6, M5, (b2.sub b6).mono (by decide), (b8.sub b6).mono (by decide), fun z6 H7 S7 M6 => ?_⟩
    have S17 := S16.trans S7
    walk_at "rx"
    refine ⟨z3, z6, _, _, rfl, ((M3.same S5).same S6).same S7, M6, ((b1.sub b5).mul (b7.sub b5)).mono (by decide), ((b2.sub b6).mul (b8.sub b6)).mono (by decide), fun z7 H8 S8 M7 => ?_⟩
    have M7 := M7.is (fold_q hB)
    walk_at "rx"
    refine ⟨z7, _, rfl, M7, fun H9 S9 => ?_⟩
    rw [sgn_q (Int.mul_pos hB hB)]
    walk_at "rx"
    exact q _ ((S17.trans S8).trans S9)
  · rw [if_pos (by rw [decide_eq_false i]; rfl)]
    rw [decide_eq_false i] at q
    walk_at "rx"
    exact q _ S1

abbrev s__have_too_much : Stmt := topS 39
theorem sc__have_too_much : FnScope ["one", "other"] ["one", "other"] (defScope s__have_too_much) := ⟨rfl, rfl, rfl, by decide +kernel, rfl, by decide +kernel, by decide +kernel⟩
theorem fn__have_too_much {f : Addr} {fd : FuncData} (F : Fun K "_have_too_much" "_have_too_much" s__have_too_much f fd) (B : Bl mg) {C_Edge : Addr} (cl_Edge : Cls K C_Edge) (na_Edge_follower : NoAttr K C_Edge "follower") (na_Edge_at : NoAttr K C_Edge "at") (c__touch : Cal P w K mg base 6 "_touch" ["one", "other"] (spEd2 C_Edge toE)) (c__folds_back : Cal P w K mg base 5 "_folds_back" ["one", "other"] (spEd2 C_Edge foE)) : FnOk P w K mg base CX0 7 f fd ["one", "other"] (spN 2 (spEd2 C_Edge tooP)) := by
  refine fnN F sc__have_too_much (fun cdv A outer s H vs Q E hr h => ?_)
  obtain ⟨v, w, Bz, x, y, rfl, hB, bB, E1, E2, q⟩ := h
  refine ⟨_, (pss_cons (ps_if (pt_cmpR (op_eqD hr.units) (pe_fld (pv 0) rfl) (pe_fld (pv 1) rfl) (nomark _)) (pss_one (ps_ret (pe_cal c__folds_back hr (by decide) (by rfl) (pa_cons (pv 0) (pa_cons (pv 1) pa_nil))))) pss_nil)
      (pss_cons (ps_if (pt_cmpR (op_eqD hr.units) (pe_fld (pv 1) rfl) (pe_fld (pv 0) rfl) (nomark _)) (pss_one (ps_ret (pe_cal c__folds_back hr (by decide) (by rfl) (pa_cons (pv 1) (pa_cons (pv 0) pa_nil))))) pss_nil)
      (pss_one (ps_ret (pe_cal c__touch hr (by decide) (by rfl) (pa_cons (pv 0) (pa_cons (pv 1) pa_nil))))))), ?_⟩
  obtain ⟨a, dx, ta, tf, vb, ve, tb, te, tl, tx, u, z, rfl, h1, k1, k2, _⟩ := E1.ex
  obtain ⟨a', dx', ta', tf', vb', ve', tb', te', tl', tx', u', z', rfl, h1', k1', k2', _⟩ := E2.ex
  walk_at "rx"
  refine q_eq2 k2 k1' ?_
  refine ⟨_, rfl, ?_⟩
  by_cases c1 : x.num = y.num ∧ x.fol = y.at_
  · rw [if_pos (decide_eq_true c1)]
    walk_at "rx"
    refine ⟨.ref a, .ref a', Bz, x, y, rfl, hB, bB, E1, E2, fun H1 S1 => ?_⟩
    have q := q _ S1
    unfold tooP at q
    rw [if_pos c1] at q
    exact q
  rw [if_neg (fun z => c1 (of_decide_eq_true z))]
  walk_at "rx"
  refine q_eq2 k2' k1 ?_
  refine ⟨_, rfl, ?_⟩
  by_cases c2 : y.num = x.num ∧ y.fol = x.at_
  · rw [if_pos (decide_eq_true c2)]
    walk_at "rx"
    refine ⟨.ref a', .ref a, Bz, y, x, rfl, hB, bB, E2, E1, fun H1 S1 => ?_⟩
    have q := q _ S1
    unfold tooP at q
    rw [if_neg c1, if_pos c2] at q
    exact q
  rw [if_neg (fun z => c2 (of_decide_eq_true z))]
  walk_at "rx"
  refine ⟨.ref a, .ref a', Bz, x, y, rfl, hB, bB, E1, E2, fun H1 S1 => ?_⟩
  have q := q _ S1
  unfold tooP at q
  rw [if_neg c1, if_neg c2] at q
  exact q

abbrev s__found_crossing : Stmt := topS 40
theorem sc__found_crossing : FnScope ["parts", "edges", "number", "polygon", "at", "one", "other"] ["parts"] (defScope s__found_crossing) := ⟨rfl, rfl, rfl, by decide +kernel, rfl, by decide +kernel, by decide +kernel⟩
theorem fn__found_crossing {f : Addr} {fd : FuncData} (F : Fun K "_found_crossing" "_found_crossing" s__found_crossing f fd) (B : Bl mg) {C_Edge : Addr} (cl_Edge : Cls K C_Edge) (na_Edge_at : NoAttr K C_Edge "at") (c__have_too_much : Cal P w K mg base 7 "_have_too_much" ["one", "other"] (spEd2 C_Edge tooP)) (c_edges_of : Cal P w K mg base 9 "edges_of" ["number", "polygon"] (spEdgesOf K C_Edge)) : FnOk P w K mg base CX0 10 f fd ["parts"] (spN 1 (spCross K)) := by
  refine fnN F sc__found_crossing (fun cdv A outer s H vs Q E hr h => ?_)
  obtain ⟨tu, tb, a, Bz, pss, rfl, hB, bB, PB, ok, q⟩ := h
  refine ⟨_, (pss_cons (ps_set (i := 1) sc__found_crossing.nd rfl (.inl rfl) (pe_lst pa_nil))
      (pss_cons (ps_for PassesOwn.never (by rfl) (pi_enumS (by rfl) B.b_enumerate (pa_cons (pv 0) pa_nil)) (pg_tup (by rfl) (pgs_cons (pg_name (i := 2) sc__found_crossing.nd rfl (.inl rfl)) (pgs_cons (pg_name (i := 3) sc__found_crossing.nd rfl (.inl rfl)) pgs_nil))) (pss_one (ps_expr (pe_bm PySem.F.plainAttrs_list PySem.F.slot_list_extend PySem.F.type_list_extend mt_extend (pv 1) (pa_cons (pe_cal c_edges_of hr (by decide) (by rfl) (pa_cons (pv 2) (pa_cons (pv 3) pa_nil))) pa_nil)))))
      (pss_cons (ps_for PassesOwn.never (by rfl) (pi_enumS (by rfl) B.b_enumerate (pa_cons (pv 1) pa_nil)) (pg_tup (by rfl) (pgs_cons (pg_name (i := 4) sc__found_crossing.nd rfl (.inl rfl)) (pgs_cons (pg_name (i := 5) sc__found_crossing.nd rfl (.inl rfl)) pgs_nil))) (pss_one (ps_for PassesOwn.never (by rfl) (pi_list (pe_slice sl_list (pv 1) (po_some (pe_op op_add (pv 4) pe_int)) po_none)) (pg_name (i := 6) sc__found_crossing.nd rfl (.inl rfl)) (pss_one (ps_if (pt_val (pe_cal c__have_too_much hr (by decide) (by rfl) (pa_cons (pv 5) (pa_cons (pv 6) pa_nil)))) (pss_one (ps_ret (pe_tup (pa_cons (pe_fld (pv 5) rfl) (pa_cons (pe_fld (pv 6) rfl) pa_nil))))) pss_nil)))))
      (pss_one (ps_ret pe_non))))), ?_⟩
  obtain ⟨vs, hq, hlen, hv⟩ := PB.ex
  walk_at "rx"
  intro E nE
  have S0 := Same.up (H := H) (o := .lst []) nE
  have L0 : LE C_Edge Bz (upd H E (.lst [])) E [] := LE.nil upd_same
  generalize upd H E (.lst []) = H0 at S0 L0 ⊢
  walk_at "rx"
  refine ⟨a, rfl, for_enumE (xs := vs) (hq.same S0) (fun i σ H' => ∃ v2 v3 v4 v5 v6 : Option V, σ = [some (.ref a), some (.ref E), v2, v3, v4, v5, v6] ∧ Same H H' ∧ LE C_Edge Bz H' E (edsT pss i)) ⟨none, none, none, none, none, rfl, S0, L0⟩ (fun i σ H' _ ⟨_, _, _, _, _, _, S, _⟩ => hq.same S) ?_ ?_⟩
  · rintro i T z σ H1 hz ⟨v2, v3, v4, v5, v6, rfl, S1, LD⟩ nT
    have hi : i < pss.length := hlen ▸ (List.getElem?_eq_some_iff.mp hz).1
    obtain ⟨b, e, PP⟩ := hv i pss[i] (List.getElem?_eq_getElem hi)
    rw [hz] at e
    cases e
    obtain ⟨o1, o2, o3⟩ := ok.all _ (List.getElem_mem hi)
    have ST := Same.up (o := .tup [.int (i : Nat), .ref b]) nT
    have hT : upd H1 T (.tup [.int (i : Nat), .ref b]) T = some (.tup [.int (i : Nat), .ref b]) := upd_same
    generalize upd H1 T (.tup [.int (i : Nat), .ref b]) = H2 at ST hT ⊢
    have LD := LD.same ST
    have S2 := S1.trans ST
    obtain ⟨us, hE, PZ⟩ := LD
    walk_at "rx"
    refine ⟨i, tb, b, Bz, pss[i], rfl, hB, bB, PP.same S2, o1, o2, o3, fun r H3 S3 LR => ?_⟩
    obtain ⟨ws, hr, PW⟩ := LR
    have hE := S3 _ _ hE
    have LD : LE C_Edge Bz H3 E (edsT pss i) := ⟨us, hE, PZ.map fun _ _ z => EdR.stay z (Same.stay S3)⟩
    have q1 := PZ.len
    have q2 := PW.len
    have q3 := edsT_len ok i (by omega)
    have q4 := edsOf_len i pss[i]
    have l1 := ok.l1
    walk_at "rx"
    refine q_ext hE hr (by omega) ?_
    walk_at "rx"
    obtain ⟨us', hE', _, LD⟩ := LD.join PW
    rw [hE] at hE'
    cases hE'
    exact ⟨_, _, _, _, _, rfl, Same.put (S2.trans S3) nE, by rw [edsT_succ hi]; exact LD⟩
  rintro σ H1 ⟨v2, v3, v4, v5, v6, rfl, S1, LD⟩
  rw [hlen] at LD
  have el := edsT_len ok pss.length (Nat.le_refl _)
  have q := fun v H' S h => q v H' S h
  unfold eds at q
  generalize edsT pss pss.length = es at LD q el
  obtain ⟨us, hE, PZ⟩ := LD
  have ul := PZ.len
  have l1 := ok.l1
  walk_at "rx"
  refine ⟨E, rfl, for_enumE (xs := us) (show SqE false K H1 E us from hE) (fun i σ H' => ∃ w2 w3 w4 w5 w6 : Option V, σ = [some (.ref a), some (.ref E), w2, w3, w4, w5, w6] ∧ Same H1 H' ∧ crossIn (tooP Bz) es = crossIn (tooP Bz) (es.drop i)) ⟨_, _, _, _, _, rfl, Same.refl _, rfl⟩ (fun i σ H' _ ⟨_, _, _, _, _, _, S, _⟩ => S _ _ hE) ?_ ?_⟩
  · rintro i T z σ H2 hz ⟨w2, w3, w4, w5, w6, rfl, S2, C2⟩ nT
    obtain ⟨e, he, RE⟩ := PZ.of hz
    have ST := Same.up (o := .tup [.int (i : Nat), z]) nT
    have hT : upd H2 T (.tup [.int (i : Nat), z]) T = some (.tup [.int (i : Nat), z]) := upd_same
    generalize upd H2 T (.tup [.int (i : Nat), z]) = H3 at ST hT ⊢
    have S3 := S2.trans ST
    have hE3 := S3 _ _ hE
    walk_at "rx"
    refine q_slL hE3 fun l nl => ?_
    rw [show cutV us (some ((i : Int) + 1)) none = us.drop (i + 1) from cut_drop us (i + 1)]
    have Sl := Same.up (o := .lst (us.drop (i + 1))) nl
    have hl : upd H3 l (.lst (us.drop (i + 1))) l = some (.lst (us.drop (i + 1))) := upd_same
    generalize upd H3 l (.lst (us.drop (i + 1))) = H4 at Sl hl ⊢
    have S4 := S3.trans Sl
    walk_at "rx"
    refine ⟨l, rfl, ⟨_, SqL.of hl⟩, ?_⟩
    refine for_list (xs := us.drop (i + 1)) (fun j σ H' => ∃ w6 : Option V, σ = [some (.ref a), some (.ref E), w2, w3, some (.int (i : Nat)), some z, w6] ∧ Same H4 H' ∧ (es.drop (i + 1)).find? (tooP Bz e) = ((es.drop (i + 1)).drop j).find? (tooP Bz e)) ⟨_, rfl, Same.refl _, rfl⟩ (fun _ _ _ _ ⟨_, _, s, _⟩ => SqL.of (s _ _ hl)) ?_ ?_
    · rintro j y σ H5 hy ⟨w6, rfl, S5, C5⟩
      obtain ⟨f', hf, RF⟩ := (PZ.drop (i + 1)).of hy
      have S15 := S4.trans S5
      rw [find_step hf] at C5
      walk_at "rx"
      refine ⟨z, y, Bz, e, f', rfl, hB, bB, RE.stay (Same.stay S15), RF.stay (Same.stay S15), fun H6 S6 => ?_⟩
      have S16 := S15.trans S6
      refine ⟨_, rfl, ?_⟩
      cases k : tooP Bz e f' with
      | true =>
        rw [if_pos rfl]
        rw [if_pos k] at C5
        obtain ⟨a1, dx, ta, tf, vb, ve, tb', te, tl, tx, u, w', rfl, h1, h2, _⟩ := (RE.stay (Same.stay S16)).ex
        obtain ⟨a1', dx', ta', tf', vb', ve', tb'', te', tl', tx', u', w'', rfl, h1', h2', _⟩ := (RF.stay (Same.stay S16)).ex
        walk_at "rx"
        intro P nP
        have SP := Same.up (o := .tup [.ref ta, .ref ta']) nP
        refine q _ _ ((S1.trans S16).trans SP) ?_
        rw [C2, cross_step he, C5]
        exact ⟨P, ta, ta', rfl, upd_same, SP _ _ h2, SP _ _ h2'⟩
      | false =>
        rw [if_neg Bool.false_ne_true]
        rw [if_neg (by rw [k]; exact Bool.false_ne_true)] at C5
        walk_at "rx"
        exact ⟨_, rfl, S5.trans S6, C5⟩
    · rintro σ H5 ⟨w6, rfl, S5, C5⟩
      rw [List.drop_eq_nil_of_le (show (es.drop (i + 1)).length ≤ (us.drop (i + 1)).length by rw [List.length_drop, List.length_drop, ul]; exact Nat.le_refl _)] at C5
      walk_at "rx"
      refine ⟨_, _, _, _, _, rfl, S4.trans S5, ?_⟩
      rw [C2, cross_step he, C5]
      rfl
  · rintro σ H2 ⟨w2, w3, w4, w5, w6, rfl, S2, C2⟩
    walk_at "rx"
    refine q .non H2 (S1.trans S2) ?_
    rw [C2, ul, List.drop_length]
    rfl

abbrev s_first_crossing : Stmt := topS 41
theorem sc_first_crossing : FnScope ["parts"] ["parts"] (defScope s_first_crossing) := ⟨rfl, rfl, rfl, by decide +kernel, rfl, by decide +kernel, by decide +kernel⟩
theorem fn_first_crossing {f : Addr} {fd : FuncData} (F : Fun K "first_crossing" "first_crossing" s_first_crossing f fd) (B : Bl mg) (c__found_crossing : Cal P w K mg base 10 "_found_crossing" ["parts"] (spCross K)) (c_need_polygons : Cal P w K mg base 5 "need_polygons" ["parts"] (spPols K)) : FnOk P w K mg base CX0 11 f fd ["parts"] (spN 1 (spCross K)) := by
  refine fnN F sc_first_crossing (fun cdv A outer s H vs Q E hr h => ?_)
  obtain ⟨tu, tb, a, Bz, pss, rfl, hB, bB, PB, ok, q⟩ := h
  refine ⟨_, (pss_cons (ps_expr (pe_cal c_need_polygons hr (by decide) (by rfl) (pa_cons (pv 0) pa_nil)))
      (pss_one (ps_ret (pe_cal c__found_crossing hr (by decide) (by rfl) (pa_cons (pv 0) pa_nil))))), ?_⟩
  walk_at "rx"
  refine ⟨tu, tb, a, Bz, pss, rfl, PB, ok, fun H1 S1 => ?_⟩
  walk_at "rx"
  refine ⟨tu, tb, a, Bz, pss, rfl, hB, bB, PB.same S1, ok, fun v H2 S2 hv => ?_⟩
  exact q v H2 (S1.trans S2) hv

abbrev s__law_cell : Stmt := topS 43
theorem sc__law_cell : FnScope ["_law_script", "_law_k"] ["_law_script", "_law_k"] (defScope s__law_cell) := ⟨rfl, rfl, rfl, by decide +kernel, rfl, by decide +kernel, by decide +kernel⟩
theorem fn__law_cell {f : Addr} {fd : FuncData} (F : Fun K "_law_cell" "_law_cell" s__law_cell f fd) (B : Bl mg)  : FnOk P w K mg base CX0 1 f fd ["_law_script", "_law_k"] (spN 2 (spCell K)) := by
  refine fnN F sc__law_cell (fun cdv A outer s H vs Q E hr h => ?_)
  obtain ⟨a, ns, k, rfl, hS, hk, q⟩ := h
  refine ⟨_, (pss_cons (ps_if (pt_cmpR op_lt (pv 1) (pe_callB call_lenK (by rfl) B.b_len (by decide +kernel) (pa_cons (pv 0) pa_nil)) (nomark _)) (pss_one (ps_ret (pe_ix ix_list (pv 0) (pv 1) (fun _ _ => rfl)))) pss_nil)
      (pss_one (ps_ret (pe_op op_add (pe_op op_mulW pe_int (pv 1)) pe_int)))), ?_⟩
  walk_at "rd"
  refine q_lenL hS ?_
  walk_at "rd"
  refine q_dec (fun e => ?_) (fun e => ?_)
  · have hk2 : k < ns.length := by
      rw [List.length_map] at e
      omega
    walk_at "rd"
    refine q_ixL hS (v := .int ns[k]) ?_ ?_
    · rw [List.getElem?_map, List.getElem?_eq_getElem hk2]
      rfl
    · exact q _
  · walk_at "rd"
    refine q_I (mulW (Bt.small (by decide) (by decide)) (Bt.small (by omega) (by omega)) (by decide)) ?_
    walk_at "rd"
    exact q _

abbrev s__law_box : Stmt := topS 44
theorem sc__law_box : FnScope ["_law_cell_here"] ["_law_cell_here"] (defScope s__law_box) := ⟨rfl, rfl, rfl, by decide +kernel, rfl, by decide +kernel, by decide +kernel⟩
theorem fn__law_box {f : Addr} {fd : FuncData} (F : Fun K "_law_box" "_law_box" s__law_box f fd) (B : Bl mg)  : FnOk P w K mg base CX0 1 f fd ["_law_cell_here"] (spN 1 spBox4) := by
  refine fnN F sc__law_box (fun cdv A outer s H vs Q E hr h => ?_)
  obtain ⟨x, rfl, q⟩ := h
  refine ⟨_, (pss_one (ps_ret (pe_lst (pa_cons (pe_callB (call_maxK rfl) (by rfl) B.b_max (by decide +kernel) (pa_cons pe_int (pa_cons (pe_op op_sub (pv 0) (pe_op op_pow pe_int pe_int)) pa_nil))) (pa_cons (pe_op op_modN (pv 0) pe_int) (pa_cons (pe_op op_modN (pv 0) pe_int) (pa_cons pe_int pa_nil))))))), ?_⟩
  walk_at "rd"
  refine q_I ⟨by decide, by decide, by decide⟩ ?_
  walk_at "rd"
  refine q_I (by decide) ?_
  walk_at "rd"
  refine q_I (by decide) ?_
  walk_at "rd"
  intro p np
  refine q p _ (Same.up np) np ⟨_, _, _, _, upd_same, ?_, fmod_lo _ (by decide), fmod_hi _ (by decide), fmod_lo _ (by decide), fmod_hi _ (by decide), by decide, by decide⟩
  split <;> omega

abbrev s__law_take : Stmt := topS 45
theorem sc__law_take : FnScope ["_law_box_here", "_law_many", "_law_digit", "_law_turn", "_law_one"] ["_law_box_here", "_law_many"] (defScope s__law_take) := ⟨rfl, rfl, rfl, by decide +kernel, rfl, by decide +kernel, by decide +kernel⟩
theorem fn__law_take {f : Addr} {fd : FuncData} (F : Fun K "_law_take" "_law_take" s__law_take f fd) (B : Bl mg)  : FnOk P w K mg base CX0 1 f fd ["_law_box_here", "_law_many"] (spN 2 spTake4) := by
  refine fnN F sc__law_take (fun cdv A outer s H vs Q E hr h => ?_)
  obtain ⟨bx, m, n, rfl, BX, hm, Bm, hn, q⟩ := h
  refine ⟨_, (pss_cons (ps_if (pt_cmpR op_gt (pe_ix ix_list (pv 0) pe_int (fun _ _ => rfl)) pe_int (nomark _)) (pss_cons (ps_set (i := 2) sc__law_take.nd rfl (.inl rfl) (pe_op op_modN (pe_ix ix_list (pv 0) pe_int (fun _ _ => rfl)) (pv 1)))
      (pss_cons (ps_asg (pe_op op_fdivA (pe_ix ix_list (pv 0) pe_int (fun _ _ => rfl)) (pv 1)) (pg_sub (pv 0) pe_int set_list))
      (pss_one (ps_ret (pv 2))))) pss_nil)
      (pss_cons (ps_asg (pe_op op_add (pe_ix ix_list (pv 0) pe_int (fun _ _ => rfl)) pe_int) (pg_sub (pv 0) pe_int set_list))
      (pss_cons (ps_set (i := 3) sc__law_take.nd rfl (.inl rfl) (pe_ix ix_list (pv 0) pe_int (fun _ _ => rfl)))
      (pss_cons (ps_set (i := 4) sc__law_take.nd rfl (.inl rfl) (pe_op op_modN (pe_op op_pow (pe_op op_add (pe_op op_add (pe_op op_mulW (pe_ix ix_list (pv 0) pe_int (fun _ _ => rfl)) (pe_op op_add (pe_op op_mulW pe_int (pv 3)) pe_int)) (pe_op op_mulW (pe_op op_mulW pe_int (pv 3)) (pv 3))) pe_int) pe_int) pe_int))
      (pss_one (ps_ret (pe_op op_modN (pe_op op_fdivA (pe_op op_modN (pe_op op_pow (pe_op op_add (pe_op op_add (pv 4) (pe_op op_mulW (pe_ix ix_list (pv 0) pe_int (fun _ _ => rfl)) (pv 3))) pe_int) pe_int) pe_int) pe_int) (pv 1)))))))), ?_⟩
  obtain ⟨a, b, c, d, hb, ha0, hb0, hb1, hc0, hc1, hd0, hd1⟩ := BX
  walk_at "rd"
  refine q_dec (fun e => ?_) (fun e => ?_)
  · walk_at "rd"
    refine q_I (by omega) ?_
    walk_at "rd"
    refine q_I (divA (by omega) Bm (by decide)) ?_
    walk_at "rd"
    refine q_set (j := 0) hb (Nat.le_of_ble_eq_true rfl) ?_
    walk_at "rd"
    exact q _ _ (fmod_lo _ hm) (fmod_hi _ hm) Go.set ⟨_, b, c, d, upd_same, fdiv_lo ha0 hm, hb0, hb1, hc0, hc1, hd0, by omega⟩
  · walk_at "rd"
    refine q_ixL (j := 3) (SqL.of hb) rfl ?_
    walk_at "rd"
    refine q_set (j := 3) hb (Nat.le_of_ble_eq_true rfl) ?_
    have h1 : (upd H bx (.lst (([V.int a, V.int b, V.int c, V.int d]).set 3 (V.int (d + 1))))) bx = some (.lst [V.int a, V.int b, V.int c, V.int (d + 1)]) := upd_same
    have bd : Bt 20 (d + 1) := bt_lt (m := 2 ^ 20) (by omega) (by omega) (by decide)
    have bb : Bt 31 b := bt_lt (m := 2 ^ 31) (by omega) (by omega) (by decide)
    have bc : Bt 31 c := bt_lt (m := 2 ^ 31) (by omega) (by omega) (by decide)
    have b2 : Bt 22 (2 * (d + 1) + 3) := bt_lt (m := 2 ^ 22) (by omega) (by omega) (by decide)
    walk_at "rd"
    refine q_ixL (j := 3) (SqL.of h1) rfl ?_
    walk_at "rd"
    refine q_I (mulW (Bt.small (by decide) (by decide)) (bd.mono (show 20 ≤ 63 by decide)) (by decide)) ?_
    walk_at "rd"
    refine q_I (mulW (bb.mono (show 31 ≤ 63 by decide)) (b2.mono (show 22 ≤ 63 by decide)) (by decide)) ?_
    walk_at "rd"
    refine q_I (mulW (Bt.small (by decide) (by decide)) (bd.mono (show 20 ≤ 63 by decide)) (by decide)) ?_
    walk_at "rd"
    have b3 : Bt 40 (5381 * (d + 1)) := ((⟨by decide⟩ : Bt 13 5381).mul bd).mono (by decide)
    refine q_I (mulW (b3.mono (show 40 ≤ 63 by decide)) (bd.mono (show 20 ≤ 63 by decide)) (by decide)) ?_
    walk_at "rd"
    have b4 : Bt 62 (b * (2 * (d + 1) + 3) + 5381 * (d + 1) * (d + 1) + 25) := by
      have u : Bt 60 (b * (2 * (d + 1) + 3)) := (bb.mul b2).mono (by decide)
      have v : Bt 60 (5381 * (d + 1) * (d + 1)) := (b3.mul bd).mono (by decide)
      exact (u.add2 v).add2 ⟨by decide⟩
    refine q_I ⟨by decide, by decide, Nat.lt_of_lt_of_le b4.lt (by decide)⟩ ?_
    walk_at "rd"
    refine q_I (by decide) ?_
    generalize hz : (Int.fmod _ 2147483647 : Int) = z
    have z0 : 0 ≤ z := hz ▸ fmod_lo _ (by decide)
    have z1 : z < 2147483647 := hz ▸ fmod_hi _ (by decide)
    have bz : Bt 60 z := bt_lt (m := 2 ^ 60) (by omega) (by omega) (by decide)
    walk_at "rd"
    refine q_I (mulW (bc.mono (show 31 ≤ 63 by decide)) (bd.mono (show 20 ≤ 63 by decide)) (by decide)) ?_
    walk_at "rd"
    have b5 : Bt 62 (z + c * (d + 1) + 47) := by
      have u : Bt 60 (c * (d + 1)) := (bc.mul bd).mono (by decide)
      exact (bz.add2 u).add2 ⟨by decide⟩
    refine q_I ⟨by decide, by decide, Nat.lt_of_lt_of_le b5.lt (by decide)⟩ ?_
    walk_at "rd"
    refine q_I (by decide) ?_
    walk_at "rd"
    refine q_I ⟨by decide, by decide⟩ ?_
    walk_at "rd"
    refine q_I (by omega) ?_
    walk_at "rd"
    exact q _ _ (fmod_lo _ hm) (fmod_hi _ hm) Go.set ⟨a, b, c, d + 1, upd_same, ha0, hb0, hb1, hc0, hc1, by omega, by omega⟩

abbrev s__law_number : Stmt := topS 46
theorem sc__law_number : FnScope ["_law_top", "_law_base", "_law_one", "_law_other"] ["_law_top", "_law_base"] (defScope s__law_number) := ⟨rfl, rfl, rfl, by decide +kernel, rfl, by decide +kernel, by decide +kernel⟩
theorem fn__law_number {f : Addr} {fd : FuncData} (F : Fun K "_law_number" "_law_number" s__law_number f fd) (B : Bl mg)  : FnOk P w K mg base CX0 1 f fd ["_law_top", "_law_base"] (spN 2 spLowP) := by
  refine fnN F sc__law_number (fun cdv A outer s H vs Q E hr h => ?_)
  obtain ⟨t, b, rfl, hb, B1, B2, q⟩ := h
  refine ⟨_, (pss_cons (ps_par (i := 2) (j := 3) (by rfl) sc__law_number.nd rfl rfl (by decide) rfl rfl (pa_cons (pe_callB call_absK (by rfl) B.b_abs (by decide +kernel) (pa_cons (pv 0) pa_nil)) (pa_cons (pv 1) pa_nil)) (by rfl))
      (pss_cons (ps_while PassesOwn.never (pt_cmpR op_gt (pv 3) pe_int (nomark _)) (pss_one (ps_par (i := 2) (j := 3) (by rfl) sc__law_number.nd rfl rfl (by decide) rfl rfl (pa_cons (pv 3) (pa_cons (pe_op op_modN (pv 2) (pv 3)) pa_nil)) (by rfl))))
      (pss_one (ps_ret (pe_ifExp (pt_cmpR op_eqI (pv 1) (pv 2) (nomark _)) (pe_op op_fdivA (pv 0) (pv 2)) (pe_tup (pa_cons (pe_op op_fdivA (pv 0) (pv 2)) (pa_cons (pe_op op_fdivA (pv 1) (pv 2)) pa_nil)))))))), ?_⟩
  obtain ⟨t', b', C⟩ := cut_of (t := t) (b := b) (by omega)
  have es : gsg t b = ((Nat.gcd t.natAbs b.natAbs : Nat) : Int) := by
    unfold gsg
    rw [if_neg (by omega)]
  rw [es] at C
  walk_at "rd"
  refine ⟨fun m σ H' => ∃ x y : Int, σ = [some (.int t), some (.int b), some (.int x), some (.int y)] ∧ H' = H ∧ m = y.natAbs ∧ 0 ≤ x ∧ 0 ≤ y ∧ Nat.gcd x.natAbs y.natAbs = Nat.gcd t.natAbs b.natAbs, ⟨_, _, _, rfl, rfl, rfl, by split <;> omega, by omega, by rw [abs_abs]⟩, ?_⟩
  rintro m σ H' ⟨x, y, rfl, rfl, rfl, hx, hy, hg⟩
  walk_at "rd"
  refine q_dec (fun e => ?_) (fun e => ?_)
  · refine ⟨_, fun σ' H' h => h, ?_⟩
    walk_at "rd"
    refine q_I (by omega) ?_
    walk_at "rd"
    have h0 := fmod_lo x (show 0 < y by omega)
    have h1 := fmod_hi x (show 0 < y by omega)
    refine ⟨(x.fmod y).natAbs, by omega, y, x.fmod y, rfl, rfl, rfl, hy, h0, ?_⟩
    rw [← hg, fmod_abs hx hy, Nat.gcd_comm x.natAbs, Nat.gcd_rec y.natAbs x.natAbs, Nat.gcd_comm]
  · have hy0 : y = 0 := by omega
    subst hy0
    have hx2 : x = ((Nat.gcd t.natAbs b.natAbs : Nat) : Int) := by
      rw [← hg]
      have : Nat.gcd x.natAbs (0 : Int).natAbs = x.natAbs := Nat.gcd_zero_right _
      rw [this]
      omega
    subst hx2
    have dv := divA (i := t) C.ns (B2.le C.ss) (by decide)
    have dv2 := divA (i := b) C.ns (B2.le C.ss) (by decide)
    walk_at "rd"
    refine q_dec (fun e => ?_) (fun e => ?_)
    · walk_at "rd"
      refine q_I dv ?_
      rw [C.ft]
      exact q _ _ (Same.refl _) (Num.nq (.inl ⟨rfl, C.one.mp e⟩) (by omega) C.low)
    · walk_at "rd"
      refine q_I dv ?_
      walk_at "rd"
      refine q_I dv2 ?_
      walk_at "rd"
      intro p np
      rw [C.ft, C.fb]
      have h2 := C.p
      have h3 : b' ≠ 1 := fun z => e (C.one.mpr z)
      exact q _ _ (Same.up np) (Num.nq (.inr ⟨p, rfl, upd_same, by omega, C.c⟩) (by omega) C.low)

abbrev s__law_told : Stmt := topS 47
theorem sc__law_told : FnScope ["_law_pairs", "_law_base", "_law_x", "_law_y"] ["_law_pairs", "_law_base"] (defScope s__law_told) := ⟨rfl, rfl, rfl, by decide +kernel, rfl, by decide +kernel, by decide +kernel⟩
theorem fn__law_told {f : Addr} {fd : FuncData} (F : Fun K "_law_told" "_law_told" s__law_told f fd) (B : Bl mg) (c__law_number : Cal P w K mg base 1 "_law_number" ["_law_top", "_law_base"] spLowP) : FnOk P w K mg base CX0 2 f fd ["_law_pairs", "_law_base"] (spN 2 spTold24) := by
  refine fnN F sc__law_told (fun cdv A outer s H vs Q E hr h => ?_)
  obtain ⟨a, ps, Bz, rfl, PZ, hB, bB, hl1, bd, q⟩ := h
  refine ⟨_, (pss_one (ps_ret (pe_lc (own := [("_law_x", 2), ("_law_y", 3)]) (g := gTup K 2 (gCons (gName 2) (gCons (gName 3) (gNil)))) (tt := tYes) (by rfl) sc__law_told.nd (pi_list (pv 0)) (blkOk_by (own := [("_law_x", 2), ("_law_y", 3)]) (N := ["_law_pairs", "_law_base", "_law_x", "_law_y"]) (sc := defScope s__law_told) (by decide +kernel)) (fun _ _ _ _ _ => (pg_tupK (K := K) rfl (by rfl) (pgs_cons (pg_name (i := 2) sc__law_told.nd rfl (.inl rfl)) (pgs_cons (pg_name (i := 3) sc__law_told.nd rfl (.inl rfl)) pgs_nil)))) (fun _ _ _ _ _ => pts_nil) (fun _ _ _ _ _ => (pe_tup (pa_cons (pe_cal c__law_number hr (by decide) (by rfl) (pa_cons (pv 2) (pa_cons (pv 1) pa_nil))) (pa_cons (pe_cal c__law_number hr (by decide) (by rfl) (pa_cons (pv 3) (pa_cons (pv 1) pa_nil))) pa_nil))))))), ?_⟩
  obtain ⟨ts, ha, hlen, hv⟩ := PZ.ex
  walk_at "rx"
  refine ⟨a, rfl, ⟨_, SqL.of ha⟩, fun D nD => ?_⟩
  refine lc_list (xs := ts.map V.ref) (fun i H' => Same H H' ∧ PolB false K H' D Bz (ps.take i)) ⟨Same.up nD, [], upd_same, rfl, fun _ _ e => by simp at e⟩ (fun j H' _ ⟨z, _⟩ => SqL.of (z _ _ ha)) ?_ ?_
  · rintro i x H2 hx ⟨S2, PB⟩
    obtain ⟨vs, hD, hvl, hvv⟩ := PB.ex
    rw [List.getElem?_map] at hx
    obtain ⟨t, ht, rfl⟩ := Option.map_eq_some_iff.mp hx
    have hi : i < ps.length := hlen ▸ (List.getElem?_eq_some_iff.mp ht).1
    obtain ⟨t', e, hp⟩ := hv i ps[i] (List.getElem?_eq_getElem hi)
    rw [ht] at e
    cases e
    have hp2 := S2 _ _ hp
    have qt : SqT K H2 t [.int ps[i].1, .int ps[i].2] := SqT.of hp2
    have bp := bd _ (List.getElem_mem hi)
    walk_at "rx"
    refine ⟨rfl, ?_⟩
    walk_at "rx"
    refine ⟨ps[i].1, Bz, rfl, hB, bp.1.mono (by decide), bB.mono (by decide), fun v1 H3 S3 N1 => ?_⟩
    walk_at "rx"
    refine ⟨ps[i].2, Bz, rfl, hB, bp.2.mono (by decide), bB.mono (by decide), fun v2 H4 S4 N2 => ?_⟩
    walk_at "rx"
    intro T nT
    have S24 := (S3.trans S4).trans (Same.up (o := .tup [v1, v2]) nT)
    have hD5 := S24 _ _ hD
    refine ⟨vs, hD5, ?_, Same.put (S2.trans S24) nD, ?_⟩
    · rw [hvl, sizeLine_eq, List.length_take]
      omega
    · rw [take_snoc hi]
      have S45 := Same.up (o := .tup [v1, v2]) nT
      exact PolB.snoc hvl (fun j p e => let ⟨v, e1, e2⟩ := hvv j p e; ⟨v, e1, (e2.same S24).lst hD5⟩) (PlB.lst hD5 ⟨T, _, _, rfl, upd_same, (N1.same' S4).same' S45, N2.same' S45⟩) upd_same
  · rintro H2 ⟨S2, PB⟩
    rw [List.length_map, hlen, List.take_length] at PB
    exact q D H2 K S2 nD PB

abbrev s__law_edges : Stmt := topS 48
theorem sc__law_edges : FnScope ["_law_rows", "_law_found", "_law_number_here", "_law_pairs", "_law_some", "_law_k", "_law_x", "_law_y", "_law_then"] ["_law_rows"] (defScope s__law_edges) := ⟨rfl, rfl, rfl, by decide +kernel, rfl, by decide +kernel, by decide +kernel⟩
theorem fn__law_edges {f : Addr} {fd : FuncData} (F : Fun K "_law_edges" "_law_edges" s__law_edges f fd) (B : Bl mg)  : FnOk P w K mg base CX0 1 f fd ["_law_rows"] (spN 1 (spEdgesL K)) := by
  refine fnN F sc__law_edges (fun cdv A outer s H vs Q E hr h => ?_)
  obtain ⟨a, pss, rfl, RW, ok, sm, q⟩ := h
  refine ⟨_, (pss_cons (ps_set (i := 1) sc__law_edges.nd rfl (.inl rfl) (pe_lst pa_nil))
      (pss_cons (ps_for PassesOwn.never (by rfl) (pi_enumS (by rfl) B.b_enumerate (pa_cons (pv 0) pa_nil)) (pg_tup (by rfl) (pgs_cons (pg_name (i := 2) sc__law_edges.nd rfl (.inl rfl)) (pgs_cons (pg_name (i := 3) sc__law_edges.nd rfl (.inl rfl)) pgs_nil))) (pss_cons (ps_set (i := 4) sc__law_edges.nd rfl (.inl rfl) pe_int)
      (pss_one (ps_for PassesOwn.never (by rfl) (pi_enumS (by rfl) B.b_enumerate (pa_cons (pv 3) pa_nil)) (pg_tup (by rfl) (pgs_cons (pg_name (i := 5) sc__law_edges.nd rfl (.inl rfl)) (pgs_cons (pg_tup (by rfl) (pgs_cons (pg_name (i := 6) sc__law_edges.nd rfl (.inl rfl)) (pgs_cons (pg_name (i := 7) sc__law_edges.nd rfl (.inl rfl)) pgs_nil))) pgs_nil))) (pss_cons (ps_set (i := 8) sc__law_edges.nd rfl (.inl rfl) (pe_ix ix_list (pv 3) (pe_op op_modN (pe_op op_add (pv 5) pe_int) (pe_callB call_lenK (by rfl) B.b_len (by decide +kernel) (pa_cons (pv 3) pa_nil))) (fun _ _ => rfl)))
      (pss_one (ps_if (pt_cmpR (op_neD hr.units) (pv 8) (pe_tup (pa_cons (pv 6) (pa_cons (pv 7) pa_nil))) (nomark _)) (pss_cons (ps_expr (pe_bm PySem.F.plainAttrs_list PySem.F.slot_list_append PySem.F.type_list_append mt_append (pv 1) (pa_cons (pe_tup (pa_cons (pv 2) (pa_cons (pv 5) (pa_cons (pe_tup (pa_cons (pv 6) (pa_cons (pv 7) pa_nil))) (pa_cons (pe_tup (pa_cons (pe_op op_sub (pe_ix ix_tup (pv 8) pe_int (fun _ _ => rfl)) (pv 6)) (pa_cons (pe_op op_sub (pe_ix ix_tup (pv 8) pe_int (fun _ _ => rfl)) (pv 7)) pa_nil))) (pa_cons (pv 4) pa_nil)))))) pa_nil)))
      (pss_one (ps_set (i := 4) sc__law_edges.nd rfl (.inl rfl) (pe_op op_add (pv 4) pe_int)))) pss_nil)))))))
      (pss_one (ps_ret (pv 1))))), ?_⟩
  obtain ⟨cs, ha, hcl, hcv⟩ := RW.ex
  walk_at "rx"
  intro D nD
  have S0 := Same.up (H := H) (o := .lst []) nD
  have L0 : Li K false LR (upd H D (.lst [])) D [] := Li.nil upd_same
  generalize upd H D (.lst []) = H0 at S0 L0 ⊢
  walk_at "rx"
  refine ⟨a, rfl, for_enumE (tu := false) (xs := cs.map V.ref) (show SqE false K H0 a _ from S0 _ _ ha) (fun i σ H' => ∃ v2 v3 v4 v5 v6 v7 v8 : Option V, σ = [some (.ref a), some (.ref D), v2, v3, v4, v5, v6, v7, v8] ∧ Same H H' ∧ Li K false LR H' D (edsT pss i)) ⟨none, none, none, none, none, none, none, rfl, S0, L0⟩ (fun i σ H' _ ⟨_, _, _, _, _, _, _, _, S, _⟩ => S _ _ ha) ?_ ?_⟩
  · rintro i T x σ H1 hx ⟨v2, v3, v4, v5, v6, v7, v8, rfl, S1, LD⟩ nT
    rw [List.getElem?_map] at hx
    obtain ⟨c, hc, rfl⟩ := Option.map_eq_some_iff.mp hx
    have hi : i < pss.length := hcl ▸ (List.getElem?_eq_some_iff.mp hc).1
    obtain ⟨c', e, _, PZ⟩ := hcv i pss[i] (List.getElem?_eq_getElem hi)
    rw [hc] at e
    cases e
    obtain ⟨o1, o2, o3⟩ := ok.all _ (List.getElem_mem hi)
    have sm := sm _ (List.getElem_mem hi)
    have el := edsT_len ok i (by omega)
    have l1 := ok.l1
    rw [edsT_succ hi]
    generalize edsT pss i = es at LD el ⊢
    generalize pss[i] = ps at PZ o1 o2 sm ⊢
    obtain ⟨ts, hp, hlen, hv⟩ := PZ.ex
    have ST := Same.up (o := .tup [.int (i : Nat), .ref c]) nT
    have hT : upd H1 T (.tup [.int (i : Nat), .ref c]) T = some (.tup [.int (i : Nat), .ref c]) := upd_same
    generalize upd H1 T (.tup [.int (i : Nat), .ref c]) = H2 at ST hT ⊢
    have LD := LD.same ST
    have S2 := S1.trans ST
    walk_at "rx"
    refine ⟨c, rfl, for_enumE (tu := false) (xs := ts.map V.ref) (show SqE false K H2 c _ from S2 _ _ hp) (fun j σ H' => ∃ w5 w6 w7 w8 : Option V, σ = [some (.ref a), some (.ref D), some (.int (i : Nat)), some (.ref c), some (.int (cntK ps j : Nat)), w5, w6, w7, w8] ∧ Same H H' ∧ Li K false LR H' D (es ++ (List.range (cntK ps j)).map (edg i ps))) ⟨_, _, _, _, rfl, S2, by rw [show cntK ps 0 = 0 from rfl, List.range_zero, List.map_nil, List.append_nil]; exact LD⟩ (fun j σ H' _ ⟨_, _, _, _, _, S, _⟩ => S _ _ hp) ?_ ?_⟩
    · rintro j T' y σ H3 hy ⟨w5, w6, w7, w8, rfl, S3, LD⟩ nT'
      rw [List.getElem?_map] at hy
      obtain ⟨t0, ht0, rfl⟩ := Option.map_eq_some_iff.mp hy
      have hj : j < ps.length := hlen ▸ (List.getElem?_eq_some_iff.mp ht0).1
      have hm : (j + 1) % ps.length < ps.length := Nat.mod_lt _ (by omega)
      obtain ⟨t0', e, ht⟩ := hv j ps[j] (List.getElem?_eq_getElem hj)
      rw [ht0] at e
      cases e
      obtain ⟨u, eu, hu⟩ := hv ((j + 1) % ps.length) ps[(j + 1) % ps.length] (List.getElem?_eq_getElem hm)
      have b1 := sm _ (List.getElem_mem hj)
      have b2 := sm _ (List.getElem_mem hm)
      have a1 : atZ ps j = ps[j] := atZ_eq hj
      have a2 : atZ ps (nxt ps j) = ps[(j + 1) % ps.length] := atZ_eq hm
      rw [← a1] at ht b1
      rw [← a2] at hu b2
      have ek : decide (atZ ps j ≠ atZ ps (nxt ps j)) = kpE ps j := rfl
      have cl := cntK_le ps j
      have kc := kAt_cnt (ps := ps) (j := j) hj
      generalize hpp : atZ ps j = pp at ht b1 ek
      generalize hrr : atZ ps (nxt ps j) = rr at hu b2 ek
      have ST := Same.up (o := .tup [.int (j : Nat), .ref t0]) nT'
      have hT' : upd H3 T' (.tup [.int (j : Nat), .ref t0]) T' = some (.tup [.int (j : Nat), .ref t0]) := upd_same
      generalize upd H3 T' (.tup [.int (j : Nat), .ref t0]) = H4 at ST hT' ⊢
      have LD := LD.same ST
      have S4 := S3.trans ST
      have hp4 := S4 _ _ hp
      have ht4 := S4 _ _ ht
      have hu4 := S4 _ _ hu
      have em : ((j : Int) + 1).fmod (ps.length : Int) = (((j + 1) % ps.length : Nat) : Int) := by
        rw [Int.fmod_eq_emod_of_nonneg _ (by omega), Int.natCast_emod, Int.natCast_add]
        rfl
      walk_at "rx"
      refine q_lenL (SqL.of hp4) ?_
      rw [List.length_map, hlen]
      walk_at "rx"
      refine q_I (by omega) ?_
      rw [em]
      refine q_ixL (SqL.of hp4) (by rw [List.getElem?_map, eu]; rfl) ?_
      walk_at "rx"
      intro T1 n1
      have Sa := Same.up (o := .tup [.int pp.1, .int pp.2]) n1
      have g1 : upd H4 T1 (.tup [.int pp.1, .int pp.2]) T1 = some (.tup [.int pp.1, .int pp.2]) := upd_same
      generalize upd H4 T1 (.tup [.int pp.1, .int pp.2]) = H5 at Sa g1 ⊢
      have hu5 := Sa _ _ hu4
      have LD := LD.same Sa
      have S5 := S4.trans Sa
      refine q_neZ hu5 g1 ?_
      rw [ek]
      cases k : kpE ps j with
      | false =>
        walk_at "rx"
        rw [show cntK ps (j + 1) = cntK ps j by rw [cntK_succ, k]; rfl]
        exact ⟨_, _, _, _, rfl, S5, LD⟩
      | true =>
        have kc := kc k
        obtain ⟨l0, hl0_⟩ := LD.is
        walk_at "rx"
        intro T2 n2
        have Sb := Same.up (o := .tup [.int pp.1, .int pp.2]) n2
        have g2 : upd H5 T2 (.tup [.int pp.1, .int pp.2]) T2 = some (.tup [.int pp.1, .int pp.2]) := upd_same
        generalize upd H5 T2 (.tup [.int pp.1, .int pp.2]) = H6 at Sb g2 ⊢
        have hu6 := Sb _ _ hu5
        have hl0_ := Sb _ _ hl0_
        have LD := LD.same Sb
        walk_at "rx"
        intro T3 n3
        have Sc := Same.up (o := .tup [.int (sub2 rr pp).1, .int (sub2 rr pp).2]) n3
        have g3 : upd H6 T3 (.tup [.int (sub2 rr pp).1, .int (sub2 rr pp).2]) T3 = some (.tup [.int (sub2 rr pp).1, .int (sub2 rr pp).2]) := upd_same
        rw [show (upd H6 T3 (.tup [.int (rr.1 - pp.1), .int (rr.2 - pp.2)])) = upd H6 T3 (.tup [.int (sub2 rr pp).1, .int (sub2 rr pp).2]) from rfl]
        generalize upd H6 T3 (.tup [.int (sub2 rr pp).1, .int (sub2 rr pp).2]) = H7 at Sc g3 ⊢
        have g2 := Sc _ _ g2
        have hl0_ := Sc _ _ hl0_
        have LD := LD.same Sc
        walk_at "rx"
        intro T4 n4
        have Sd := Same.up (o := .tup [.int (i : Nat), .int (j : Nat), .ref T2, .ref T3, .int (cntK ps j : Nat)]) n4
        have g4 : upd H7 T4 (.tup [.int (i : Nat), .int (j : Nat), .ref T2, .ref T3, .int (cntK ps j : Nat)]) T4 = some (.tup [.int (i : Nat), .int (j : Nat), .ref T2, .ref T3, .int (cntK ps j : Nat)]) := upd_same
        generalize upd H7 T4 (.tup [.int (i : Nat), .int (j : Nat), .ref T2, .ref T3, .int (cntK ps j : Nat)]) = H8 at Sd g4 ⊢
        have g2 := Sd _ _ g2
        have g3 := Sd _ _ g3
        have LD := LD.same Sd
        have S8 := ((S5.trans Sb).trans Sc).trans Sd
        have E1 : LR H8 (.ref T4) (edg i ps (cntK ps j)) := by
          refine ⟨T4, T2, T3, rfl, ?_, ?_, ?_, ?_⟩
          · show H8 T4 = some (.tup [.int (i : Nat), .int (kAt ps (cntK ps j) : Nat), .ref T2, .ref T3, .int (cntK ps j : Nat)])
            rw [kc]; exact g4
          · show H8 T2 = some (.tup [.int (atZ ps (kAt ps (cntK ps j))).1, .int (atZ ps (kAt ps (cntK ps j))).2])
            rw [kc, hpp]; exact g2
          · show H8 T3 = some (.tup [.int (sub2 (atZ ps (nxt ps (kAt ps (cntK ps j)))) (atZ ps (kAt ps (cntK ps j)))).1, .int (sub2 (atZ ps (nxt ps (kAt ps (cntK ps j)))) (atZ ps (kAt ps (cntK ps j)))).2])
            rw [kc, hpp, hrr]; exact g3
          · show Bt 24 (atZ ps (kAt ps (cntK ps j))).1 ∧ Bt 24 (atZ ps (kAt ps (cntK ps j))).2 ∧ Bt 26 (sub2 (atZ ps (nxt ps (kAt ps (cntK ps j)))) (atZ ps (kAt ps (cntK ps j)))).1 ∧ Bt 26 (sub2 (atZ ps (nxt ps (kAt ps (cntK ps j)))) (atZ ps (kAt ps (cntK ps j)))).2
            rw [kc, hpp, hrr]
            exact ⟨b1.1.mono (by decide), b1.2.mono (by decide), (b2.1.sub2 b1.1).mono (by decide), (b2.2.sub2 b1.2).mono (by decide)⟩
        obtain ⟨acc, e1, e2, LD⟩ := LD.push E1
        walk_at "rx"
        refine q_apd e1 (by rw [e2, List.length_append, List.length_map, List.length_range]; omega) ?_
        walk_at "rx"
        rw [show cntK ps (j + 1) = cntK ps j + 1 by rw [cntK_succ, k]; rfl]
        refine ⟨_, _, _, _, rfl, Same.put S8 nD, ?_⟩
        rw [List.range_succ, List.map_append, ← List.append_assoc]
        exact LD
    · rintro σ H3 ⟨w5, w6, w7, w8, rfl, S3, LD⟩
      rw [List.length_map, hlen] at LD
      walk_at "rx"
      exact ⟨_, _, _, _, _, _, _, rfl, S3, LD⟩
  rintro σ H1 ⟨v2, v3, v4, v5, v6, v7, v8, rfl, S1, LD⟩
  rw [List.length_map, hcl] at LD
  walk_at "rx"
  exact q D H1 S1 LD

abbrev s__law_cross : Stmt := topS 49
theorem sc__law_cross : FnScope ["_law_one", "_law_other"] ["_law_one", "_law_other"] (defScope s__law_cross) := ⟨rfl, rfl, rfl, by decide +kernel, rfl, by decide +kernel, by decide +kernel⟩
theorem fn__law_cross {f : Addr} {fd : FuncData} (F : Fun K "_law_cross" "_law_cross" s__law_cross f fd) (B : Bl mg)  : FnOk P w K mg base CX0 1 f fd ["_law_one", "_law_other"] (spN 2 spCrsL) := by
  refine fnN F sc__law_cross (fun cdv A outer s H vs Q E hr h => ?_)
  obtain ⟨t1, t2, a, b, rfl, h1, h2, ⟨b1, b2, b3, b4⟩, q⟩ := h
  refine ⟨_, (pss_one (ps_ret (pe_op op_sub (pe_op op_mulW (pe_ix ix_tup (pv 0) pe_int (fun _ _ => rfl)) (pe_ix ix_tup (pv 1) pe_int (fun _ _ => rfl))) (pe_op op_mulW (pe_ix ix_tup (pv 0) pe_int (fun _ _ => rfl)) (pe_ix ix_tup (pv 1) pe_int (fun _ _ => rfl)))))), ?_⟩
  walk_at "rx"
  refine q_I (mulW b1 b4 (by decide)) ?_
  walk_at "rx"
  refine q_I (mulW b2 b3 (by decide)) ?_
  walk_at "rx"
  exact q _ (Same.refl _)

abbrev s__law_along : Stmt := topS 50
theorem sc__law_along : FnScope ["_law_step", "_law_begin", "_law_place"] ["_law_step", "_law_begin", "_law_place"] (defScope s__law_along) := ⟨rfl, rfl, rfl, by decide +kernel, rfl, by decide +kernel, by decide +kernel⟩
theorem fn__law_along {f : Addr} {fd : FuncData} (F : Fun K "_law_along" "_law_along" s__law_along f fd) (B : Bl mg)  : FnOk P w K mg base CX0 1 f fd ["_law_step", "_law_begin", "_law_place"] (spN 3 spAlongL) := by
  refine fnN F sc__law_along (fun cdv A outer s H vs Q E hr h => ?_)
  obtain ⟨t1, t2, t3, s0, b, p, rfl, h1, h2, h3, ⟨b1, b2, b3, b4, b5, b6⟩, q⟩ := h
  refine ⟨_, (pss_one (ps_ret (pe_op op_add (pe_op op_mulW (pe_op op_sub (pe_ix ix_tup (pv 2) pe_int (fun _ _ => rfl)) (pe_ix ix_tup (pv 1) pe_int (fun _ _ => rfl))) (pe_ix ix_tup (pv 0) pe_int (fun _ _ => rfl))) (pe_op op_mulW (pe_op op_sub (pe_ix ix_tup (pv 2) pe_int (fun _ _ => rfl)) (pe_ix ix_tup (pv 1) pe_int (fun _ _ => rfl))) (pe_ix ix_tup (pv 0) pe_int (fun _ _ => rfl)))))), ?_⟩
  walk_at "rx"
  refine q_I (mulW (b5.sub2 b3) b1 (by decide)) ?_
  walk_at "rx"
  refine q_I (mulW (b6.sub2 b4) b2 (by decide)) ?_
  walk_at "rx"
  exact q _ (Same.refl _)

abbrev s__law_shared : Stmt := topS 51
theorem sc__law_shared : FnScope ["_law_one", "_law_other", "_law_begin", "_law_step", "_law_between", "_law_turn", "_law_end", "_law_low", "_law_high", "_law_way", "_law_here", "_law_there"] ["_law_one", "_law_other"] (defScope s__law_shared) := ⟨rfl, rfl, rfl, by decide +kernel, rfl, by decide +kernel, by decide +kernel⟩
theorem fn__law_shared {f : Addr} {fd : FuncData} (F : Fun K "_law_shared" "_law_shared" s__law_shared f fd) (B : Bl mg) (c__law_cross : Cal P w K mg base 1 "_law_cross" ["_law_one", "_law_other"] spCrsL) (c__law_along : Cal P w K mg base 1 "_law_along" ["_law_step", "_law_begin", "_law_place"] spAlongL) : FnOk P w K mg base CX0 2 f fd ["_law_one", "_law_other"] (spN 2 (spEL shX)) := by
  refine fnN F sc__law_shared (fun cdv A outer s H vs Q E hr h => ?_)
  obtain ⟨v, w, x, y, rfl, E1, E2, q⟩ := h
  refine ⟨_, (pss_cons (ps_par (i := 2) (j := 3) (by rfl) sc__law_shared.nd rfl rfl (by decide) rfl rfl (pa_cons (pe_ix ix_tup (pv 0) pe_int (fun _ _ => rfl)) (pa_cons (pe_ix ix_tup (pv 0) pe_int (fun _ _ => rfl)) pa_nil)) (by rfl))
      (pss_cons (ps_set (i := 4) sc__law_shared.nd rfl (.inl rfl) (pe_tup (pa_cons (pe_op op_sub (pe_ix ix_tup (pe_ix ix_tup (pv 1) pe_int (fun _ _ => rfl)) pe_int (fun _ _ => rfl)) (pe_ix ix_tup (pv 2) pe_int (fun _ _ => rfl))) (pa_cons (pe_op op_sub (pe_ix ix_tup (pe_ix ix_tup (pv 1) pe_int (fun _ _ => rfl)) pe_int (fun _ _ => rfl)) (pe_ix ix_tup (pv 2) pe_int (fun _ _ => rfl))) pa_nil))))
      (pss_cons (ps_set (i := 5) sc__law_shared.nd rfl (.inl rfl) (pe_cal c__law_cross hr (by decide) (by rfl) (pa_cons (pv 3) (pa_cons (pe_ix ix_tup (pv 1) pe_int (fun _ _ => rfl)) pa_nil))))
      (pss_cons (ps_if (pt_cmpR op_eqI (pv 5) pe_int (nomark _)) (pss_cons (ps_if (pt_cmpR op_neI (pe_cal c__law_cross hr (by decide) (by rfl) (pa_cons (pv 3) (pa_cons (pv 4) pa_nil))) pe_int (nomark _)) (pss_one (ps_ret pe_bl)) pss_nil)
      (pss_cons (ps_set (i := 6) sc__law_shared.nd rfl (.inl rfl) (pe_tup (pa_cons (pe_op op_add (pe_ix ix_tup (pe_ix ix_tup (pv 1) pe_int (fun _ _ => rfl)) pe_int (fun _ _ => rfl)) (pe_ix ix_tup (pe_ix ix_tup (pv 1) pe_int (fun _ _ => rfl)) pe_int (fun _ _ => rfl))) (pa_cons (pe_op op_add (pe_ix ix_tup (pe_ix ix_tup (pv 1) pe_int (fun _ _ => rfl)) pe_int (fun _ _ => rfl)) (pe_ix ix_tup (pe_ix ix_tup (pv 1) pe_int (fun _ _ => rfl)) pe_int (fun _ _ => rfl))) pa_nil))))
      (pss_cons (ps_asg (pe_callB cr_sortedI (by rfl) B.b_sorted (by decide +kernel) (pa_cons (pe_lst (pa_cons (pe_cal c__law_along hr (by decide) (by rfl) (pa_cons (pv 3) (pa_cons (pv 2) (pa_cons (pe_ix ix_tup (pv 1) pe_int (fun _ _ => rfl)) pa_nil)))) (pa_cons (pe_cal c__law_along hr (by decide) (by rfl) (pa_cons (pv 3) (pa_cons (pv 2) (pa_cons (pv 6) pa_nil)))) pa_nil))) pa_nil)) (pg_lst (by rfl) (pgs_cons (pg_name (i := 7) sc__law_shared.nd rfl (.inl rfl)) (pgs_cons (pg_name (i := 8) sc__law_shared.nd rfl (.inl rfl)) pgs_nil))))
      (pss_one (ps_ret (pe_and (pe_cmpR op_le (pv 7) (pe_cal c__law_along hr (by decide) (by rfl) (pa_cons (pv 3) (pa_cons (pe_tup (pa_cons pe_int (pa_cons pe_int pa_nil))) (pa_cons (pv 3) pa_nil)))) (nomark _)) (pe_one (pe_cmpR op_ge (pv 8) pe_int (nomark _))))))))) pss_nil)
      (pss_cons (ps_set (i := 9) sc__law_shared.nd rfl (.inl rfl) (pe_ix ix_list (pe_lst (pa_cons pe_int (pa_cons (pe_un un_neg pe_int) pa_nil))) (pe_callTy call_intK (by rfl) B.b_int (by decide +kernel) (pa_cons (pe_cmpR op_lt (pv 5) pe_int (nomark _)) pa_nil)) (fun _ _ => rfl)))
      (pss_cons (ps_par (i := 10) (j := 11) (by rfl) sc__law_shared.nd rfl rfl (by decide) rfl rfl (pa_cons (pe_op op_mulW (pe_cal c__law_cross hr (by decide) (by rfl) (pa_cons (pv 4) (pa_cons (pe_ix ix_tup (pv 1) pe_int (fun _ _ => rfl)) pa_nil))) (pv 9)) (pa_cons (pe_op op_mulW (pe_cal c__law_cross hr (by decide) (by rfl) (pa_cons (pv 4) (pa_cons (pv 3) pa_nil))) (pv 9)) pa_nil)) (by rfl))
      (pss_one (ps_ret (pe_and (pe_chain op_le op_le pe_int (pv 10) (pe_op op_mulW (pv 5) (pv 9))) (pe_one (pe_chain op_le op_le pe_int (pv 11) (pe_op op_mulW (pv 5) (pv 9))))))))))))), ?_⟩
  obtain ⟨t1, p1, d1, rfl, h1, g1, k1, b1, b2, b3, b4⟩ := E1
  obtain ⟨t2, p2, d2, rfl, h2, g2, k2, c1, c2, c3, c4⟩ := E2
  walk_at "rx"
  have q := fun H' S => q H' S
  unfold shX sharedL at q
  have bd1 : Bt 100 (sub2 x.Q x.P).1 := b3.mono (by decide)
  have bd2 : Bt 100 (sub2 x.Q x.P).2 := b4.mono (by decide)
  have be1 : Bt 100 (sub2 y.Q y.P).1 := c3.mono (by decide)
  have be2 : Bt 100 (sub2 y.Q y.P).2 := c4.mono (by decide)
  have bw1 : Bt 100 (sub2 y.P x.P).1 := (c1.sub2 b1).mono (by decide)
  have bw2 : Bt 100 (sub2 y.P x.P).2 := (c2.sub2 b2).mono (by decide)
  have bp1 : Bt 100 x.P.1 := b1.mono (by decide)
  have bp2 : Bt 100 x.P.2 := b2.mono (by decide)
  have bq1 : Bt 100 y.P.1 := c1.mono (by decide)
  have bq2 : Bt 100 y.P.2 := c2.mono (by decide)
  intro T1 n1
  have Sa := Same.up (o := .tup [.int (sub2 y.P x.P).1, .int (sub2 y.P x.P).2]) n1
  have hT1 : upd H T1 (.tup [.int (sub2 y.P x.P).1, .int (sub2 y.P x.P).2]) T1 = some (.tup [.int (sub2 y.P x.P).1, .int (sub2 y.P x.P).2]) := upd_same
  have er : (upd H T1 (.tup [.int (y.P.1 - x.P.1), .int (y.P.2 - x.P.2)])) = upd H T1 (.tup [.int (sub2 y.P x.P).1, .int (sub2 y.P x.P).2]) := rfl
  rw [er]
  generalize upd H T1 (.tup [.int (sub2 y.P x.P).1, .int (sub2 y.P x.P).2]) = H1 at Sa hT1 ⊢
  clear er
  have h1 := Sa _ _ h1
  have h2 := Sa _ _ h2
  have g1 := Sa _ _ g1
  have g2 := Sa _ _ g2
  have k1 := Sa _ _ k1
  have k2 := Sa _ _ k2
  walk_at "rx"
  refine ⟨d1, d2, sub2 x.Q x.P, sub2 y.Q y.P, rfl, k1, k2, ⟨bd1, bd2, be1, be2⟩, fun H2 Sb => ?_⟩
  have h1 := Sb _ _ h1
  have h2 := Sb _ _ h2
  have g1 := Sb _ _ g1
  have g2 := Sb _ _ g2
  have k1 := Sb _ _ k1
  have k2 := Sb _ _ k2
  have hT1 := Sb _ _ hT1
  have S2 := Sa.trans Sb
  have bt : Bt 60 (crs (sub2 x.Q x.P) (sub2 y.Q y.P)) := ((b3.mul c4).sub2 (b4.mul c3)).mono (by decide)
  walk_at "rx"
  refine q_dec (fun e => ?_) (fun e => ?_)
  · simp only [if_pos e] at q
    walk_at "rx"
    refine ⟨d1, T1, sub2 x.Q x.P, sub2 y.P x.P, rfl, k1, hT1, ⟨bd1, bd2, bw1, bw2⟩, fun H3 Sc => ?_⟩
    have h1 := Sc _ _ h1
    have h2 := Sc _ _ h2
    have g1 := Sc _ _ g1
    have g2 := Sc _ _ g2
    have k1 := Sc _ _ k1
    have k2 := Sc _ _ k2
    have hT1 := Sc _ _ hT1
    have S3 := S2.trans Sc
    walk_at "rx"
    by_cases e2 : crs (sub2 x.Q x.P) (sub2 y.P x.P) = 0
    · rw [if_neg (by rw [decide_eq_true e2]; decide)]
      simp only [if_neg (fun (z : crs (sub2 x.Q x.P) (sub2 y.P x.P) ≠ 0) => z e2)] at q
      obtain ⟨dd, hdd⟩ : ∃ dd : Pz2, dd = (y.P.1 + (sub2 y.Q y.P).1, y.P.2 + (sub2 y.Q y.P).2) := ⟨_, rfl⟩
      have bx1 : Bt 100 dd.1 := by rw [hdd]; exact ((c1.mono (by decide : 24 ≤ 26)).add2 c3).mono (by decide)
      have bx2 : Bt 100 dd.2 := by rw [hdd]; exact ((c2.mono (by decide : 24 ≤ 26)).add2 c4).mono (by decide)
      walk_at "rx"
      intro T2 n2
      have Sd := Same.up (o := .tup [.int dd.1, .int dd.2]) n2
      have hT2 : upd H3 T2 (.tup [.int dd.1, .int dd.2]) T2 = some (.tup [.int dd.1, .int dd.2]) := upd_same
      rw [show (upd H3 T2 (.tup [.int (y.P.1 + (sub2 y.Q y.P).1), .int (y.P.2 + (sub2 y.Q y.P).2)])) = upd H3 T2 (.tup [.int dd.1, .int dd.2]) by rw [hdd]]
      rw [← hdd] at q
      generalize upd H3 T2 (.tup [.int dd.1, .int dd.2]) = H4 at Sd hT2 ⊢
      have h1 := Sd _ _ h1
      have h2 := Sd _ _ h2
      have g1 := Sd _ _ g1
      have g2 := Sd _ _ g2
      have k1 := Sd _ _ k1
      have k2 := Sd _ _ k2
      have hT1 := Sd _ _ hT1
      walk_at "rx"
      refine ⟨d1, p1, p2, sub2 x.Q x.P, x.P, y.P, rfl, k1, g1, g2, ⟨bd1, bd2, bp1, bp2, bq1, bq2⟩, fun H5 Se => ?_⟩
      have h1 := Se _ _ h1
      have h2 := Se _ _ h2
      have g1 := Se _ _ g1
      have g2 := Se _ _ g2
      have k1 := Se _ _ k1
      have k2 := Se _ _ k2
      have hT1 := Se _ _ hT1
      have hT2 := Se _ _ hT2
      walk_at "rx"
      refine ⟨d1, p1, T2, sub2 x.Q x.P, x.P, dd, rfl, k1, g1, hT2, ⟨bd1, bd2, bp1, bp2, bx1, bx2⟩, fun H6 Sf => ?_⟩
      have h1 := Sf _ _ h1
      have h2 := Sf _ _ h2
      have g1 := Sf _ _ g1
      have g2 := Sf _ _ g2
      have k1 := Sf _ _ k1
      have k2 := Sf _ _ k2
      have hT1 := Sf _ _ hT1
      walk_at "rx"
      intro L nL
      have Sg := Same.up (o := .lst [.int (dot2 (sub2 y.P x.P) (sub2 x.Q x.P)), .int (dot2 (sub2 dd x.P) (sub2 x.Q x.P))]) nL
      have hL : upd H6 L (.lst [.int (dot2 (sub2 y.P x.P) (sub2 x.Q x.P)), .int (dot2 (sub2 dd x.P) (sub2 x.Q x.P))]) L = some (.lst [.int (dot2 (sub2 y.P x.P) (sub2 x.Q x.P)), .int (dot2 (sub2 dd x.P) (sub2 x.Q x.P))]) := upd_same
      generalize upd H6 L (.lst [.int (dot2 (sub2 y.P x.P) (sub2 x.Q x.P)), .int (dot2 (sub2 dd x.P) (sub2 x.Q x.P))]) = H7 at Sg hL ⊢
      have h1 := Sg _ _ h1
      have h2 := Sg _ _ h2
      have g1 := Sg _ _ g1
      have g2 := Sg _ _ g2
      have k1 := Sg _ _ k1
      have k2 := Sg _ _ k2
      have hT1 := Sg _ _ hT1
      refine ⟨L, [dot2 (sub2 y.P x.P) (sub2 x.Q x.P), dot2 (sub2 dd x.P) (sub2 x.Q x.P)], rfl, SqL.of hL, fun ns' O hp hs nO => ?_⟩
      rw [sort2 hp hs]
      generalize min (dot2 (sub2 y.P x.P) (sub2 x.Q x.P)) (dot2 (sub2 dd x.P) (sub2 x.Q x.P)) = lo at q ⊢
      generalize max (dot2 (sub2 y.P x.P) (sub2 x.Q x.P)) (dot2 (sub2 dd x.P) (sub2 x.Q x.P)) = hi at q ⊢
      have Sh := Same.up (o := .lst [.int lo, .int hi]) nO
      have hO : upd H7 O (.lst ([lo, hi].map V.int)) O = some (.lst [.int lo, .int hi]) := upd_same
      rw [show upd H7 O (.lst ([lo, hi].map V.int)) = upd H7 O (.lst [.int lo, .int hi]) from rfl] at hO ⊢
      generalize upd H7 O (.lst [.int lo, .int hi]) = H8 at Sh hO ⊢
      have h1 := Sh _ _ h1
      have h2 := Sh _ _ h2
      have g1 := Sh _ _ g1
      have g2 := Sh _ _ g2
      have k1 := Sh _ _ k1
      have k2 := Sh _ _ k2
      have hT1 := Sh _ _ hT1
      walk_at "rx"
      intro T3 n3
      have Si := Same.up (o := .tup [.int 0, .int 0]) n3
      have hT3 : upd H8 T3 (.tup [.int 0, .int 0]) T3 = some (.tup [.int 0, .int 0]) := upd_same
      generalize upd H8 T3 (.tup [.int 0, .int 0]) = H9 at Si hT3 ⊢
      have h1 := Si _ _ h1
      have h2 := Si _ _ h2
      have g1 := Si _ _ g1
      have g2 := Si _ _ g2
      have k1 := Si _ _ k1
      have k2 := Si _ _ k2
      have hT1 := Si _ _ hT1
      have S9 := (((((S3.trans Sd).trans Se).trans Sf).trans Sg).trans Sh).trans Si
      walk_at "rx"
      refine ⟨d1, T3, d1, sub2 x.Q x.P, (0, 0), sub2 x.Q x.P, rfl, k1, hT3, k1, ⟨bd1, bd2, ⟨by decide⟩, ⟨by decide⟩, bd1, bd2⟩, fun H10 Sj => ?_⟩
      rw [sub0]
      walk_at "rx"
      revert q
      by_cases e3 : lo ≤ dot2 (sub2 x.Q x.P) (sub2 x.Q x.P)
      · rw [if_pos (decide_eq_true e3), decide_eq_true e3]
        intro q
        walk_at "rx"
        exact q _ (S9.trans Sj)
      · rw [if_neg (fun z => e3 (of_decide_eq_true z)), decide_eq_false e3]
        intro q
        exact q _ (S9.trans Sj)
    · rw [if_pos (by rw [decide_eq_false e2]; rfl)]
      simp only [if_pos (show crs (sub2 x.Q x.P) (sub2 y.P x.P) ≠ 0 from e2)] at q
      walk_at "rx"
      exact q _ S3
  · simp only [if_neg e] at q
    walk_at "rx"
    intro W nW
    have Sw := Same.up (o := .lst [.int 1, .int (-1)]) nW
    have hW : upd H2 W (.lst [.int 1, .int (-1)]) W = some (.lst [.int 1, .int (-1)]) := upd_same
    generalize upd H2 W (.lst [.int 1, .int (-1)]) = H3 at Sw hW ⊢
    have h1 := Sw _ _ h1
    have h2 := Sw _ _ h2
    have g1 := Sw _ _ g1
    have g2 := Sw _ _ g2
    have k1 := Sw _ _ k1
    have k2 := Sw _ _ k2
    have hT1 := Sw _ _ hT1
    have S3 := S2.trans Sw
    have bu : Bt 60 (crs (sub2 y.P x.P) (sub2 y.Q y.P)) := (((c1.sub2 b1).mul c4).sub2 ((c2.sub2 b2).mul c3)).mono (by decide)
    have bv : Bt 60 (crs (sub2 y.P x.P) (sub2 x.Q x.P)) := (((c1.sub2 b1).mul b4).sub2 ((c2.sub2 b2).mul b3)).mono (by decide)
    walk_at "rx"
    by_cases nt : crs (sub2 x.Q x.P) (sub2 y.Q y.P) < 0
    · rw [if_pos (decide_eq_true nt)]
      simp only [if_pos nt] at q
      have bone : Bt 3 (-1 : Int) := ⟨by decide⟩
      walk_at "rx"
      refine ⟨T1, d2, sub2 y.P x.P, sub2 y.Q y.P, rfl, hT1, k2, ⟨bw1, bw2, be1, be2⟩, fun H4 Sd => ?_⟩
      have h1 := Sd _ _ h1
      have h2 := Sd _ _ h2
      have g1 := Sd _ _ g1
      have g2 := Sd _ _ g2
      have k1 := Sd _ _ k1
      have k2 := Sd _ _ k2
      have hT1 := Sd _ _ hT1
      walk_at "rx"
      refine q_I (mulW bu bone (by decide)) ?_
      walk_at "rx"
      refine ⟨T1, d1, sub2 y.P x.P, sub2 x.Q x.P, rfl, hT1, k1, ⟨bw1, bw2, bd1, bd2⟩, fun H5 Se => ?_⟩
      walk_at "rx"
      refine q_I (mulW bv bone (by decide)) ?_
      walk_at "rx"
      have q : ∀ H', Same H H' → Q (.bl (decide (0 ≤ crs (sub2 y.P x.P) (sub2 y.Q y.P) * (-1)) && decide (crs (sub2 y.P x.P) (sub2 y.Q y.P) * (-1) ≤ crs (sub2 x.Q x.P) (sub2 y.Q y.P) * (-1)) && (decide (0 ≤ crs (sub2 y.P x.P) (sub2 x.Q x.P) * (-1)) && decide (crs (sub2 y.P x.P) (sub2 x.Q x.P) * (-1) ≤ crs (sub2 x.Q x.P) (sub2 y.Q y.P) * (-1))))) H' := by
        simpa only [Int.mul_neg, Int.mul_one] using q
      have S5 := (S3.trans Sd).trans Se
      by_cases u0 : 0 ≤ crs (sub2 y.P x.P) (sub2 y.Q y.P) * (-1)
      · rw [decide_eq_true u0] at q
        rw [if_pos (decide_eq_true u0)]
        walk_at "rx"
        refine q_I (mulW bt bone (by decide)) ?_
        walk_at "rx"
        by_cases u1 : crs (sub2 y.P x.P) (sub2 y.Q y.P) * (-1) ≤ crs (sub2 x.Q x.P) (sub2 y.Q y.P) * (-1)
        · rw [decide_eq_true u1] at q
          rw [if_pos (decide_eq_true u1)]
          walk_at "rx"
          by_cases v0 : 0 ≤ crs (sub2 y.P x.P) (sub2 x.Q x.P) * (-1)
          · rw [decide_eq_true v0] at q
            rw [if_pos (decide_eq_true v0)]
            walk_at "rx"
            refine q_I (mulW bt bone (by decide)) ?_
            exact ⟨_, _, rfl, rfl, q _ S5⟩
          · rw [decide_eq_false v0] at q
            rw [if_neg (fun z => v0 (of_decide_eq_true z))]
            exact q _ S5
        · rw [decide_eq_false u1] at q
          rw [if_neg (fun z => u1 (of_decide_eq_true z))]
          exact q _ S5
      · rw [decide_eq_false u0] at q
        rw [if_neg (fun z => u0 (of_decide_eq_true z))]
        refine ⟨false, rfl, ?_⟩
        rw [if_neg Bool.false_ne_true]
        exact q _ S5
    · rw [if_neg (fun z => nt (of_decide_eq_true z))]
      simp only [if_neg nt] at q
      have bone : Bt 3 (1 : Int) := ⟨by decide⟩
      walk_at "rx"
      refine ⟨T1, d2, sub2 y.P x.P, sub2 y.Q y.P, rfl, hT1, k2, ⟨bw1, bw2, be1, be2⟩, fun H4 Sd => ?_⟩
      have h1 := Sd _ _ h1
      have h2 := Sd _ _ h2
      have g1 := Sd _ _ g1
      have g2 := Sd _ _ g2
      have k1 := Sd _ _ k1
      have k2 := Sd _ _ k2
      have hT1 := Sd _ _ hT1
      walk_at "rx"
      refine q_I (mulW bu bone (by decide)) ?_
      walk_at "rx"
      refine ⟨T1, d1, sub2 y.P x.P, sub2 x.Q x.P, rfl, hT1, k1, ⟨bw1, bw2, bd1, bd2⟩, fun H5 Se => ?_⟩
      walk_at "rx"
      refine q_I (mulW bv bone (by decide)) ?_
      walk_at "rx"
      have q : ∀ H', Same H H' → Q (.bl (decide (0 ≤ crs (sub2 y.P x.P) (sub2 y.Q y.P) * 1) && decide (crs (sub2 y.P x.P) (sub2 y.Q y.P) * 1 ≤ crs (sub2 x.Q x.P) (sub2 y.Q y.P) * 1) && (decide (0 ≤ crs (sub2 y.P x.P) (sub2 x.Q x.P) * 1) && decide (crs (sub2 y.P x.P) (sub2 x.Q x.P) * 1 ≤ crs (sub2 x.Q x.P) (sub2 y.Q y.P) * 1)))) H' := by
        simpa only [Int.mul_neg, Int.mul_one] using q
      have S5 := (S3.trans Sd).trans Se
      by_cases u0 : 0 ≤ crs (sub2 y.P x.P) (sub2 y.Q y.P) * 1
      · rw [decide_eq_true u0] at q
        rw [if_pos (decide_eq_true u0)]
        walk_at "rx"
        refine q_I (mulW bt bone (by decide)) ?_
        walk_at "rx"
        by_cases u1 : crs (sub2 y.P x.P) (sub2 y.Q y.P) * 1 ≤ crs (sub2 x.Q x.P) (sub2 y.Q y.P) * 1
        · rw [decide_eq_true u1] at q
          rw [if_pos (decide_eq_true u1)]
          walk_at "rx"
          by_cases v0 : 0 ≤ crs (sub2 y.P x.P) (sub2 x.Q x.P) * 1
          · rw [decide_eq_true v0] at q
            rw [if_pos (decide_eq_true v0)]
            walk_at "rx"
            refine q_I (mulW bt bone (by decide)) ?_
            exact ⟨_, _, rfl, rfl, q _ S5⟩
          · rw [decide_eq_false v0] at q
            rw [if_neg (fun z => v0 (of_decide_eq_true z))]
            exact q _ S5
        · rw [decide_eq_false u1] at q
          rw [if_neg (fun z => u1 (of_decide_eq_true z))]
          exact q _ S5
      · rw [decide_eq_false u0] at q
        rw [if_neg (fun z => u0 (of_decide_eq_true z))]
        refine ⟨false, rfl, ?_⟩
        rw [if_neg Bool.false_ne_true]
        exact q _ S5

abbrev s__law_folded : Stmt := topS 52
theorem sc__law_folded : FnScope ["_law_one", "_law_other", "_law_back"] ["_law_one", "_law_other"] (defScope s__law_folded) := ⟨rfl, rfl, rfl, by decide +kernel, rfl, by decide +kernel, by decide +kernel⟩
theorem fn__law_folded {f : Addr} {fd : FuncData} (F : Fun K "_law_folded" "_law_folded" s__law_folded f fd) (B : Bl mg) (c__law_cross : Cal P w K mg base 1 "_law_cross" ["_law_one", "_law_other"] spCrsL) : FnOk P w K mg base CX0 2 f fd ["_law_one", "_law_other"] (spN 2 (spEL foX)) := by
  refine fnN F sc__law_folded (fun cdv A outer s H vs Q E hr h => ?_)
  obtain ⟨v, w, x, y, rfl, E1, E2, q⟩ := h
  refine ⟨_, (pss_cons (ps_set (i := 2) sc__law_folded.nd rfl (.inl rfl) (pe_op op_add (pe_op op_mulW (pe_ix ix_tup (pe_ix ix_tup (pv 0) pe_int (fun _ _ => rfl)) pe_int (fun _ _ => rfl)) (pe_ix ix_tup (pe_ix ix_tup (pv 1) pe_int (fun _ _ => rfl)) pe_int (fun _ _ => rfl))) (pe_op op_mulW (pe_ix ix_tup (pe_ix ix_tup (pv 0) pe_int (fun _ _ => rfl)) pe_int (fun _ _ => rfl)) (pe_ix ix_tup (pe_ix ix_tup (pv 1) pe_int (fun _ _ => rfl)) pe_int (fun _ _ => rfl)))))
      (pss_one (ps_ret (pe_and (pe_cmpR op_eqI (pe_cal c__law_cross hr (by decide) (by rfl) (pa_cons (pe_ix ix_tup (pv 0) pe_int (fun _ _ => rfl)) (pa_cons (pe_ix ix_tup (pv 1) pe_int (fun _ _ => rfl)) pa_nil))) pe_int (nomark _)) (pe_one (pe_cmpR op_lt (pv 2) pe_int (nomark _))))))), ?_⟩
  obtain ⟨t1, p1, d1, rfl, h1, g1, k1, b1, b2, b3, b4⟩ := E1
  obtain ⟨t2, p2, d2, rfl, h2, g2, k2, c1, c2, c3, c4⟩ := E2
  walk_at "rx"
  refine q_I (mulW b3 c3 (by decide)) ?_
  walk_at "rx"
  refine q_I (mulW b4 c4 (by decide)) ?_
  walk_at "rx"
  refine ⟨d1, d2, _, _, rfl, k1, k2, ⟨b3.mono (by decide), b4.mono (by decide), c3.mono (by decide), c4.mono (by decide)⟩, fun H1 S1 => ?_⟩
  walk_at "rx"
  have q := q H1 S1
  unfold foX foldL at q
  by_cases k : crs (sub2 x.Q x.P) (sub2 y.Q y.P) = 0
  · rw [if_pos (decide_eq_true k)]
    rw [decide_eq_true k] at q
    walk_at "rx"
    exact q
  · rw [if_neg (fun z => k (of_decide_eq_true z))]
    rw [decide_eq_false k] at q
    exact q

abbrev s__law_due : Stmt := topS 53
theorem sc__law_due : FnScope ["_law_rows", "_law_edges_here", "_law_one", "_law_sizes", "_law_k", "_law_other", "_law_many", "_law_bad", "_law_number_here"] ["_law_rows"] (defScope s__law_due) := ⟨rfl, rfl, rfl, by decide +kernel, rfl, by decide +kernel, by decide +kernel⟩
theorem fn__law_due {f : Addr} {fd : FuncData} (F : Fun K "_law_due" "_law_due" s__law_due f fd) (B : Bl mg) (c__law_folded : Cal P w K mg base 2 "_law_folded" ["_law_one", "_law_other"] (spEL foX)) (c__law_shared : Cal P w K mg base 2 "_law_shared" ["_law_one", "_law_other"] (spEL shX)) (c__law_edges : Cal P w K mg base 1 "_law_edges" ["_law_rows"] (spEdgesL K)) : FnOk P w K mg base CX0 3 f fd ["_law_rows"] (spN 1 spDueL) := by
  refine fnN F sc__law_due (fun cdv A outer s H vs Q E hr h => ?_)
  obtain ⟨a, pss, rfl, RW, ok, sm, q⟩ := h
  refine ⟨_, (pss_cons (ps_set (i := 1) sc__law_due.nd rfl (.inr rfl) (pe_cal c__law_edges hr (by decide) (by rfl) (pa_cons (pv 0) pa_nil)))
      (pss_cons (ps_setLc (i := 3) (own := [("_law_number_here", 8)]) (g := gName 8) (tt := tYes) (by rfl) sc__law_due.nd rfl rfl (sw_true rfl rfl rfl (by decide +kernel)) (pi_range1 (by rfl) B.b_range (pa_cons (pe_callB call_lenK (by rfl) B.b_len (by decide +kernel) (pa_cons (pv 0) pa_nil)) pa_nil)) (blkOk_by (own := [("_law_number_here", 8)]) (N := ["_law_rows", "_law_edges_here", "_law_one", "_law_sizes", "_law_k", "_law_other", "_law_many", "_law_bad", "_law_number_here"]) (sc := defScope s__law_due) (by decide +kernel)) (fun _ _ _ _ _ => pg_name (i := 8) sc__law_due.nd rfl (.inr rfl)) (fun _ _ _ _ _ => pts_nil) (fun _ _ _ _ _ => (pe_callB (call_lenKK (K := K) rfl) (by rfl) B.b_len (by decide +kernel) (pa_cons (pe_lc (own := [("_law_one", 2)]) (g := gName 2) (by rfl) sc__law_due.nd (pi_listK (K := K) rfl (pv 1)) (blkOk_by (own := [("_law_one", 2)]) (N := ["_law_rows", "_law_edges_here", "_law_one", "_law_sizes", "_law_k", "_law_other", "_law_many", "_law_bad", "_law_number_here"]) (sc := relS (lcScope (defBody s__law_due) 1 (defScope s__law_due)) (defScope s__law_due)) (by decide +kernel)) (fun _ _ _ _ _ => pg_name (i := 2) sc__law_due.nd rfl (.inl rfl)) (fun _ _ _ _ _ => pts_one (pt_cmpR op_eqI (pe_ix (ix_tupK (K := K) rfl) (pv 2) pe_int (fun _ _ => rfl)) (pv 8) (nomark _))) (fun _ _ _ _ _ => (pv 2))) pa_nil))))
      (pss_cons (ps_for PassesOwn.never (by rfl) (pi_enumS (by rfl) B.b_enumerate (pa_cons (pv 1) pa_nil)) (pg_tup (by rfl) (pgs_cons (pg_name (i := 4) sc__law_due.nd rfl (.inl rfl)) (pgs_cons (pg_name (i := 2) sc__law_due.nd rfl (.inl rfl)) pgs_nil))) (pss_one (ps_for PassesOwn.never (by rfl) (pi_list (pe_slice sl_list (pv 1) (po_some (pe_op op_add (pv 4) pe_int)) po_none)) (pg_name (i := 5) sc__law_due.nd rfl (.inl rfl)) (pss_cons (ps_set (i := 6) sc__law_due.nd rfl (.inl rfl) (pe_ix ix_list (pv 3) (pe_ix ix_tup (pv 2) pe_int (fun _ _ => rfl)) (fun _ _ => rfl)))
      (pss_cons (ps_if (PW.pt (pw_and (pt_cmpR op_eqI (pe_ix ix_tup (pv 2) pe_int (fun _ _ => rfl)) (pe_ix ix_tup (pv 5) pe_int (fun _ _ => rfl)) (nomark _)) (pw_and (pt_cmpR op_gt (pv 6) pe_int (nomark _)) (pw_and1 (pt_cmpR op_eqI (pe_ix ix_tup (pv 5) pe_int (fun _ _ => rfl)) (pe_op op_add (pe_ix ix_tup (pv 2) pe_int (fun _ _ => rfl)) pe_int) (nomark _)))))) (pss_one (ps_set (i := 7) sc__law_due.nd rfl (.inl rfl) (pe_cal c__law_folded hr (by decide) (by rfl) (pa_cons (pv 2) (pa_cons (pv 5) pa_nil))))) (pss_one (ps_if (PW.pt (pw_and (pt_cmpR op_eqI (pe_ix ix_tup (pv 2) pe_int (fun _ _ => rfl)) (pe_ix ix_tup (pv 5) pe_int (fun _ _ => rfl)) (nomark _)) (pw_and (pt_cmpR op_gt (pv 6) pe_int (nomark _)) (pw_and1 (pt_cmpR (op_eqD hr.units) (pe_tup (pa_cons (pe_ix ix_tup (pv 2) pe_int (fun _ _ => rfl)) (pa_cons (pe_ix ix_tup (pv 5) pe_int (fun _ _ => rfl)) pa_nil))) (pe_tup (pa_cons pe_int (pa_cons (pe_op op_sub (pv 6) pe_int) pa_nil))) (nomark _)))))) (pss_one (ps_set (i := 7) sc__law_due.nd rfl (.inl rfl) (pe_cal c__law_folded hr (by decide) (by rfl) (pa_cons (pv 5) (pa_cons (pv 2) pa_nil))))) (pss_one (ps_set (i := 7) sc__law_due.nd rfl (.inl rfl) (pe_cal c__law_shared hr (by decide) (by rfl) (pa_cons (pv 2) (pa_cons (pv 5) pa_nil))))))))
      (pss_one (ps_if (pt_val (pv 7)) (pss_one (ps_ret (pe_tup (pa_cons (pe_tup (pa_cons (pe_ix ix_tup (pv 2) pe_int (fun _ _ => rfl)) (pa_cons (pe_ix ix_tup (pv 2) pe_int (fun _ _ => rfl)) pa_nil))) (pa_cons (pe_tup (pa_cons (pe_ix ix_tup (pv 5) pe_int (fun _ _ => rfl)) (pa_cons (pe_ix ix_tup (pv 5) pe_int (fun _ _ => rfl)) pa_nil))) pa_nil))))) pss_nil)))))))
      (pss_one (ps_ret pe_non))))), ?_⟩
  obtain ⟨cs, ha, hcl, hcv⟩ := RW.ex
  walk_at "rx"
  refine ⟨a, pss, rfl, RW, ok, sm, fun E H1 S1 LD => ?_⟩
  walk_at "rx"
  refine q_lenL (SqL.of (S1 _ _ ha)) ?_
  rw [List.length_map, hcl]
  have l1 := ok.l1
  have l0 := ok.l0
  have el := edsT_len ok pss.length (Nat.le_refl _)
  obtain ⟨us, hE0, PZ0⟩ := LD
  have hE0 : H1 E = some (.lst us) := hE0
  have mn : ∀ e ∈ eds pss, e.num < pss.length ∧ e.many = ((eds pss).filter (numF e.num)).length := fun e h => many_eds h
  rw [show edsT pss pss.length = eds pss from rfl] at el
  generalize eds pss = es at q el PZ0 mn
  have ul := PZ0.len
  walk_at "rx"
  refine ⟨_, rfl, by omega, by omega, fun D nD => ?_⟩
  refine lc_range (lo := 0) (n := ((pss.length : Nat) : Int).toNat) (fun i H' => Same H1 H' ∧ H' D = some (.lst ((List.range i).map fun k : Nat => V.int ((es.filter (numF k)).length : Nat)))) ⟨Same.up nD, upd_same⟩ ?_ ?_
  · rintro i H2 hi ⟨S2, hD⟩
    walk_at "rx"
    refine ⟨rfl, ?_⟩
    have hE2 := S2 _ _ hE0
    walk_at "rx"
    refine ⟨E, rfl, ⟨_, SqL.of hE2⟩, fun D2 nD2 => ?_⟩
    refine lc_list (xs := us) (fun j H' => Same H2 H' ∧ ∃ zs, H' D2 = some (.lst zs) ∧ zs.length = ((es.take j).filter (numF i)).length) ⟨Same.up nD2, [], upd_same, rfl⟩ (fun j H' _ ⟨z, _⟩ => SqL.of (z _ _ hE2)) ?_ ?_
    · rintro j x H3 hx ⟨S3, zs, hz, zl⟩
      obtain ⟨e, he, RE⟩ := PZ0.of hx
      obtain ⟨t, p, d, rfl, ht, _⟩ := ImR.im RE (Same.im (S2.trans S3))
      have fl := List.length_filter_le (numF i) (es.take j)
      rw [List.length_take] at fl
      walk_at "rx"
      refine ⟨rfl, ?_⟩
      walk_at "rx"
      by_cases c : e.num = i
      · rw [if_pos (decide_eq_true (by omega))]
        walk_at "rx"
        refine ⟨zs, hz, by rw [zl, sizeLine_eq]; omega, Same.put S3 nD2, zs ++ [.ref t], upd_same, ?_⟩
        rw [List.length_append, zl, take_at he, List.filter_append, List.length_append, show [e].filter (numF i) = [e] by simp [numF, c]]
        rfl
      · rw [if_neg (fun z => c (by have := of_decide_eq_true z; omega))]
        refine ⟨S3, zs, hz, ?_⟩
        rw [zl, take_at he, List.filter_append, show [e].filter (numF i) = [] by simp [numF, c], List.append_nil]
    · rintro H3 ⟨S3, zs, hz, zl⟩
      rw [ul, List.take_length] at zl
      walk_at "rx"
      refine q_lenL (SqL.of hz) ?_
      rw [zl]
      refine ⟨_, S3 _ _ hD, ?_, Same.put (S2.trans S3) nD, ?_⟩
      · rw [List.length_map, List.length_range, sizeLine_eq]
        omega
      · rw [List.range_succ, List.map_append]
        exact upd_same
  rintro H2 ⟨S2, hD⟩
  rw [Int.toNat_natCast] at hD
  have hE := S2 _ _ hE0
  have PZ := PZ0.im (Same.im S2)
  have S0 := S1.trans S2
  walk_at "rx"
  refine ⟨E, rfl, for_enumE (tu := false) (xs := us) (show SqE false K H2 E us from hE) (fun i σ H' => ∃ w2 w4 w5 w6 w7 w8 : Option V, σ = [some (.ref a), some (.ref E), w2, some (.ref D), w4, w5, w6, w7, w8] ∧ Same H2 H' ∧ crossIn badL es = crossIn badL (es.drop i)) ⟨_, _, _, _, _, _, rfl, Same.refl _, rfl⟩ (fun i σ H' _ ⟨_, _, _, _, _, _, _, S, _⟩ => S _ _ hE) ?_ ?_⟩
  · rintro i T z σ H3 hz ⟨w2, w4, w5, w6, w7, w8, rfl, S3, C2⟩ nT
    obtain ⟨e, he, RE⟩ := PZ.of hz
    obtain ⟨m1, m2⟩ := mn e (List.mem_of_getElem? he)
    have ST := Same.up (o := .tup [.int (i : Nat), z]) nT
    have hT : upd H3 T (.tup [.int (i : Nat), z]) T = some (.tup [.int (i : Nat), z]) := upd_same
    generalize upd H3 T (.tup [.int (i : Nat), z]) = H4 at ST hT ⊢
    have S4 := S3.trans ST
    have hE4 := S4 _ _ hE
    walk_at "rx"
    refine q_slL hE4 fun l nl => ?_
    rw [show cutV us (some ((i : Int) + 1)) none = us.drop (i + 1) from cut_drop us (i + 1)]
    have Sl := Same.up (o := .lst (us.drop (i + 1))) nl
    have hl : upd H4 l (.lst (us.drop (i + 1))) l = some (.lst (us.drop (i + 1))) := upd_same
    generalize upd H4 l (.lst (us.drop (i + 1))) = H4' at Sl hl ⊢
    have S4 := S4.trans Sl
    walk_at "rx"
    refine ⟨l, rfl, ⟨_, SqL.of hl⟩, ?_⟩
    refine for_list (xs := us.drop (i + 1)) (fun j σ H' => ∃ w5 w6 w7 : Option V, σ = [some (.ref a), some (.ref E), some z, some (.ref D), some (.int (i : Nat)), w5, w6, w7, w8] ∧ Same H4' H' ∧ (es.drop (i + 1)).find? (badL e) = ((es.drop (i + 1)).drop j).find? (badL e)) ⟨_, _, _, rfl, Same.refl _, rfl⟩ (fun _ _ _ _ ⟨_, _, _, _, s, _⟩ => SqL.of (s _ _ hl)) ?_ ?_
    · rintro j y σ H5 hy ⟨w5, w6, w7, rfl, S5, C5⟩
      obtain ⟨f', hf, RF⟩ := (PZ.drop (i + 1)).of hy
      rw [find_step hf] at C5
      have S5' := S5
      have S5 := S4.trans S5
      have hD5 := S5 _ _ hD
      obtain ⟨a1, p1, d1, rfl, h1, _⟩ := ImR.im RE (Same.im S5)
      obtain ⟨a2, p2, d2, rfl, h2, _⟩ := ImR.im RF (Same.im S5)
      walk_at "rx"
      refine q_ixL (v := .int ((e.many : Nat) : Int)) (j := e.num) (SqL.of hD5) (by rw [List.getElem?_map, List.getElem?_range m1, m2]; rfl) ?_
      walk_at "rx"
      by_cases c1 : e.num = f'.num
      · rw [if_pos (decide_eq_true (by rw [c1]))]
        walk_at "rx"
        by_cases c2 : 2 < e.many
        · rw [if_pos (decide_eq_true (by omega))]
          walk_at "rx"
          by_cases c3 : f'.som = e.som + 1
          · rw [if_pos (decide_eq_true (by omega))]
            have hb : badL e f' = foX e f' := by unfold badL; rw [if_pos ⟨c1, c2, c3⟩]; rfl
            walk_at "rx"
            refine ⟨_, _, e, f', rfl, ImR.im RE (Same.im S5), ImR.im RF (Same.im S5), fun H6 S6 => ?_⟩
            rw [show foX e f' = badL e f' from hb.symm]
            walk_at "rx"
            cases k : badL e f' with
            | true =>
              rw [if_pos rfl]
              rw [if_pos k] at C5
              have S16 := S5.trans S6
              obtain ⟨b1, p1, d1, ez, h1, _⟩ := ImR.im RE (Same.im S16)
              cases ez
              obtain ⟨b2, p2, d2, ez, h2, _⟩ := ImR.im RF (Same.im S16)
              cases ez
              walk_at "rx"
              intro P1 nP1
              have Sa := Same.up (o := .tup [.int (e.num : Nat), .int (e.at_ : Nat)]) nP1
              have g1 : upd H6 P1 (.tup [.int (e.num : Nat), .int (e.at_ : Nat)]) P1 = some (.tup [.int (e.num : Nat), .int (e.at_ : Nat)]) := upd_same
              generalize upd H6 P1 (.tup [.int (e.num : Nat), .int (e.at_ : Nat)]) = H7 at Sa g1 ⊢
              have h2 := Sa _ _ h2
              walk_at "rx"
              intro P2 nP2
              have Sb := Same.up (o := .tup [.int (f'.num : Nat), .int (f'.at_ : Nat)]) nP2
              have g2 : upd H7 P2 (.tup [.int (f'.num : Nat), .int (f'.at_ : Nat)]) P2 = some (.tup [.int (f'.num : Nat), .int (f'.at_ : Nat)]) := upd_same
              generalize upd H7 P2 (.tup [.int (f'.num : Nat), .int (f'.at_ : Nat)]) = H8 at Sb g2 ⊢
              have g1 := Sb _ _ g1
              walk_at "rx"
              intro P nP
              have SP := Same.up (o := .tup [.ref P1, .ref P2]) nP
              refine q _ _ ((((S0.trans S16).trans Sa).trans Sb).trans SP) ?_
              rw [C2, cross_step he, C5]
              exact ⟨P, P1, P2, rfl, upd_same, SP _ _ g1, SP _ _ g2⟩
            | false =>
              rw [if_neg Bool.false_ne_true]
              rw [if_neg (by rw [k]; exact Bool.false_ne_true)] at C5
              walk_at "rx"
              exact ⟨_, _, _, rfl, S5'.trans S6, C5⟩
          · rw [if_neg (fun z => c3 (by have := of_decide_eq_true z; omega))]
            walk_at "rx"
            intro T1 n1
            have Sa := Same.up (o := .tup [.int (e.som : Nat), .int (f'.som : Nat)]) n1
            have g1 : upd H5 T1 (.tup [.int (e.som : Nat), .int (f'.som : Nat)]) T1 = some (.tup [.int (e.som : Nat), .int (f'.som : Nat)]) := upd_same
            generalize upd H5 T1 (.tup [.int (e.som : Nat), .int (f'.som : Nat)]) = G1 at Sa g1 ⊢
            have S5 := S5.trans Sa
            have S5' := S5'.trans Sa
            have h1 := Sa _ _ h1
            have h2 := Sa _ _ h2
            walk_at "rx"
            intro T2 n2
            have Sb := Same.up (o := .tup [.int 0, .int ((e.many : Nat) - 1)]) n2
            have g2 : upd G1 T2 (.tup [.int 0, .int ((e.many : Nat) - 1)]) T2 = some (.tup [.int 0, .int ((e.many : Nat) - 1)]) := upd_same
            generalize upd G1 T2 (.tup [.int 0, .int ((e.many : Nat) - 1)]) = G2 at Sb g2 ⊢
            have g1 := Sb _ _ g1
            have S5 := S5.trans Sb
            have S5' := S5'.trans Sb
            have h1 := Sb _ _ h1
            have h2 := Sb _ _ h2
            refine q_eqI2 g1 g2 ?_
            refine ⟨_, rfl, ?_⟩
            by_cases c4 : e.som = 0 ∧ f'.som + 1 = e.many
            · rw [if_pos (decide_eq_true (by omega))]
              have hb : badL e f' = foX f' e := by unfold badL; rw [if_neg (fun z => c3 z.2.2), if_pos ⟨c1, c2, c4⟩]; rfl
              walk_at "rx"
              refine ⟨_, _, f', e, rfl, ImR.im RF (Same.im S5), ImR.im RE (Same.im S5), fun H6 S6 => ?_⟩
              rw [show foX f' e = badL e f' from hb.symm]
              walk_at "rx"
              cases k : badL e f' with
              | true =>
                rw [if_pos rfl]
                rw [if_pos k] at C5
                have S16 := S5.trans S6
                obtain ⟨b1, p1, d1, ez, h1, _⟩ := ImR.im RE (Same.im S16)
                cases ez
                obtain ⟨b2, p2, d2, ez, h2, _⟩ := ImR.im RF (Same.im S16)
                cases ez
                walk_at "rx"
                intro P1 nP1
                have Sa := Same.up (o := .tup [.int (e.num : Nat), .int (e.at_ : Nat)]) nP1
                have g1 : upd H6 P1 (.tup [.int (e.num : Nat), .int (e.at_ : Nat)]) P1 = some (.tup [.int (e.num : Nat), .int (e.at_ : Nat)]) := upd_same
                generalize upd H6 P1 (.tup [.int (e.num : Nat), .int (e.at_ : Nat)]) = H7 at Sa g1 ⊢
                have h2 := Sa _ _ h2
                walk_at "rx"
                intro P2 nP2
                have Sb := Same.up (o := .tup [.int (f'.num : Nat), .int (f'.at_ : Nat)]) nP2
                have g2 : upd H7 P2 (.tup [.int (f'.num : Nat), .int (f'.at_ : Nat)]) P2 = some (.tup [.int (f'.num : Nat), .int (f'.at_ : Nat)]) := upd_same
                generalize upd H7 P2 (.tup [.int (f'.num : Nat), .int (f'.at_ : Nat)]) = H8 at Sb g2 ⊢
                have g1 := Sb _ _ g1
                walk_at "rx"
                intro P nP
                have SP := Same.up (o := .tup [.ref P1, .ref P2]) nP
                refine q _ _ ((((S0.trans S16).trans Sa).trans Sb).trans SP) ?_
                rw [C2, cross_step he, C5]
                exact ⟨P, P1, P2, rfl, upd_same, SP _ _ g1, SP _ _ g2⟩
              | false =>
                rw [if_neg Bool.false_ne_true]
                rw [if_neg (by rw [k]; exact Bool.false_ne_true)] at C5
                walk_at "rx"
                exact ⟨_, _, _, rfl, S5'.trans S6, C5⟩
            · rw [if_neg (fun z => c4 (by have := of_decide_eq_true z; omega))]
              have hb : badL e f' = shX e f' := by unfold badL; rw [if_neg (fun z => c3 z.2.2), if_neg (fun z => c4 z.2.2)]; rfl
              walk_at "rx"
              refine ⟨_, _, e, f', rfl, ImR.im RE (Same.im S5), ImR.im RF (Same.im S5), fun H6 S6 => ?_⟩
              rw [show shX e f' = badL e f' from hb.symm]
              walk_at "rx"
              cases k : badL e f' with
              | true =>
                rw [if_pos rfl]
                rw [if_pos k] at C5
                have S16 := S5.trans S6
                obtain ⟨b1, p1, d1, ez, h1, _⟩ := ImR.im RE (Same.im S16)
                cases ez
                obtain ⟨b2, p2, d2, ez, h2, _⟩ := ImR.im RF (Same.im S16)
                cases ez
                walk_at "rx"
                intro P1 nP1
                have Sa := Same.up (o := .tup [.int (e.num : Nat), .int (e.at_ : Nat)]) nP1
                have g1 : upd H6 P1 (.tup [.int (e.num : Nat), .int (e.at_ : Nat)]) P1 = some (.tup [.int (e.num : Nat), .int (e.at_ : Nat)]) := upd_same
                generalize upd H6 P1 (.tup [.int (e.num : Nat), .int (e.at_ : Nat)]) = H7 at Sa g1 ⊢
                have h2 := Sa _ _ h2
                walk_at "rx"
                intro P2 nP2
                have Sb := Same.up (o := .tup [.int (f'.num : Nat), .int (f'.at_ : Nat)]) nP2
                have g2 : upd H7 P2 (.tup [.int (f'.num : Nat), .int (f'.at_ : Nat)]) P2 = some (.tup [.int (f'.num : Nat), .int (f'.at_ : Nat)]) := upd_same
                generalize upd H7 P2 (.tup [.int (f'.num : Nat), .int (f'.at_ : Nat)]) = H8 at Sb g2 ⊢
                have g1 := Sb _ _ g1
                walk_at "rx"
                intro P nP
                have SP := Same.up (o := .tup [.ref P1, .ref P2]) nP
                refine q _ _ ((((S0.trans S16).trans Sa).trans Sb).trans SP) ?_
                rw [C2, cross_step he, C5]
                exact ⟨P, P1, P2, rfl, upd_same, SP _ _ g1, SP _ _ g2⟩
              | false =>
                rw [if_neg Bool.false_ne_true]
                rw [if_neg (by rw [k]; exact Bool.false_ne_true)] at C5
                walk_at "rx"
                exact ⟨_, _, _, rfl, S5'.trans S6, C5⟩
        · rw [if_neg (fun z => c2 (by have := of_decide_eq_true z; omega))]
          walk_at "rx"
          have hb : badL e f' = shX e f' := by unfold badL; rw [if_neg (fun z => c2 z.2.1), if_neg (fun z => c2 z.2.1)]; rfl
          walk_at "rx"
          refine ⟨_, _, e, f', rfl, ImR.im RE (Same.im S5), ImR.im RF (Same.im S5), fun H6 S6 => ?_⟩
          rw [show shX e f' = badL e f' from hb.symm]
          walk_at "rx"
          cases k : badL e f' with
          | true =>
            rw [if_pos rfl]
            rw [if_pos k] at C5
            have S16 := S5.trans S6
            obtain ⟨b1, p1, d1, ez, h1, _⟩ := ImR.im RE (Same.im S16)
            cases ez
            obtain ⟨b2, p2, d2, ez, h2, _⟩ := ImR.im RF (Same.im S16)
            cases ez
            walk_at "rx"
            intro P1 nP1
            have Sa := Same.up (o := .tup [.int (e.num : Nat), .int (e.at_ : Nat)]) nP1
            have g1 : upd H6 P1 (.tup [.int (e.num : Nat), .int (e.at_ : Nat)]) P1 = some (.tup [.int (e.num : Nat), .int (e.at_ : Nat)]) := upd_same
            generalize upd H6 P1 (.tup [.int (e.num : Nat), .int (e.at_ : Nat)]) = H7 at Sa g1 ⊢
            have h2 := Sa _ _ h2
            walk_at "rx"
            intro P2 nP2
            have Sb := Same.up (o := .tup [.int (f'.num : Nat), .int (f'.at_ : Nat)]) nP2
            have g2 : upd H7 P2 (.tup [.int (f'.num : Nat), .int (f'.at_ : Nat)]) P2 = some (.tup [.int (f'.num : Nat), .int (f'.at_ : Nat)]) := upd_same
            generalize upd H7 P2 (.tup [.int (f'.num : Nat), .int (f'.at_ : Nat)]) = H8 at Sb g2 ⊢
            have g1 := Sb _ _ g1
            walk_at "rx"
            intro P nP
            have SP := Same.up (o := .tup [.ref P1, .ref P2]) nP
            refine q _ _ ((((S0.trans S16).trans Sa).trans Sb).trans SP) ?_
            rw [C2, cross_step he, C5]
            exact ⟨P, P1, P2, rfl, upd_same, SP _ _ g1, SP _ _ g2⟩
          | false =>
            rw [if_neg Bool.false_ne_true]
            rw [if_neg (by rw [k]; exact Bool.false_ne_true)] at C5
            walk_at "rx"
            exact ⟨_, _, _, rfl, S5'.trans S6, C5⟩
      · rw [if_neg (fun z => c1 (by have := of_decide_eq_true z; omega))]
        walk_at "rx"
        have hb : badL e f' = shX e f' := by unfold badL; rw [if_neg (fun z => c1 z.1), if_neg (fun z => c1 z.1)]; rfl
        walk_at "rx"
        refine ⟨_, _, e, f', rfl, ImR.im RE (Same.im S5), ImR.im RF (Same.im S5), fun H6 S6 => ?_⟩
        rw [show shX e f' = badL e f' from hb.symm]
        walk_at "rx"
        cases k : badL e f' with
        | true =>
          rw [if_pos rfl]
          rw [if_pos k] at C5
          have S16 := S5.trans S6
          obtain ⟨b1, p1, d1, ez, h1, _⟩ := ImR.im RE (Same.im S16)
          cases ez
          obtain ⟨b2, p2, d2, ez, h2, _⟩ := ImR.im RF (Same.im S16)
          cases ez
          walk_at "rx"
          intro P1 nP1
          have Sa := Same.up (o := .tup [.int (e.num : Nat), .int (e.at_ : Nat)]) nP1
          have g1 : upd H6 P1 (.tup [.int (e.num : Nat), .int (e.at_ : Nat)]) P1 = some (.tup [.int (e.num : Nat), .int (e.at_ : Nat)]) := upd_same
          generalize upd H6 P1 (.tup [.int (e.num : Nat), .int (e.at_ : Nat)]) = H7 at Sa g1 ⊢
          have h2 := Sa _ _ h2
          walk_at "rx"
          intro P2 nP2
          have Sb := Same.up (o := .tup [.int (f'.num : Nat), .int (f'.at_ : Nat)]) nP2
          have g2 : upd H7 P2 (.tup [.int (f'.num : Nat), .int (f'.at_ : Nat)]) P2 = some (.tup [.int (f'.num : Nat), .int (f'.at_ : Nat)]) := upd_same
          generalize upd H7 P2 (.tup [.int (f'.num : Nat), .int (f'.at_ : Nat)]) = H8 at Sb g2 ⊢
          have g1 := Sb _ _ g1
          walk_at "rx"
          intro P nP
          have SP := Same.up (o := .tup [.ref P1, .ref P2]) nP
          refine q _ _ ((((S0.trans S16).trans Sa).trans Sb).trans SP) ?_
          rw [C2, cross_step he, C5]
          exact ⟨P, P1, P2, rfl, upd_same, SP _ _ g1, SP _ _ g2⟩
        | false =>
          rw [if_neg Bool.false_ne_true]
          rw [if_neg (by rw [k]; exact Bool.false_ne_true)] at C5
          walk_at "rx"
          exact ⟨_, _, _, rfl, S5'.trans S6, C5⟩
    · rintro σ H5 ⟨w5, w6, w7, rfl, S5, C5⟩
      rw [List.drop_eq_nil_of_le (show (es.drop (i + 1)).length ≤ (us.drop (i + 1)).length by rw [List.length_drop, List.length_drop, ul]; exact Nat.le_refl _)] at C5
      walk_at "rx"
      refine ⟨_, _, _, _, _, _, rfl, S4.trans S5, ?_⟩
      rw [C2, cross_step he, C5]
      rfl
  · rintro σ H3 ⟨w2, w4, w5, w6, w7, w8, rfl, S3, C2⟩
    walk_at "rx"
    refine q .non H3 (S0.trans S3) ?_
    rw [C2, ul, List.drop_length]
    rfl

abbrev s__law_round : Stmt := topS 54
theorem sc__law_round : FnScope ["_law_box_here", "_law_ways", "_law_middle", "_law_k", "_law_some", "_law_found", "_law_high", "_law_way", "_law_x", "_law_y", "_law_far"] ["_law_box_here"] (defScope s__law_round) := ⟨rfl, rfl, rfl, by decide +kernel, rfl, by decide +kernel, by decide +kernel⟩
theorem fn__law_round {f : Addr} {fd : FuncData} (F : Fun K "_law_round" "_law_round" s__law_round f fd) (B : Bl mg) (c__law_take : Cal P w K mg base 1 "_law_take" ["_law_box_here", "_law_many"] spTake4) : FnOk P w K mg base CX0 2 f fd ["_law_box_here"] (spN 1 (spRoundL 1 20 100)) := by
  refine fnN F sc__law_round (fun cdv A outer s H vs Q E hr h => ?_)
  obtain ⟨bx, n, rfl, BX, hn, q⟩ := h
  refine ⟨_, (pss_cons (ps_set (i := 1) sc__law_round.nd rfl (.inl rfl) (pe_lst (pa_cons (pe_tup (pa_cons pe_int (pa_cons pe_int pa_nil))) (pa_cons (pe_tup (pa_cons pe_int (pa_cons pe_int pa_nil))) (pa_cons (pe_tup (pa_cons pe_int (pa_cons pe_int pa_nil))) (pa_cons (pe_tup (pa_cons pe_int (pa_cons pe_int pa_nil))) (pa_cons (pe_tup (pa_cons pe_int (pa_cons pe_int pa_nil))) (pa_cons (pe_tup (pa_cons (pe_un un_neg pe_int) (pa_cons pe_int pa_nil))) (pa_cons (pe_tup (pa_cons (pe_un un_neg pe_int) (pa_cons pe_int pa_nil))) (pa_cons (pe_tup (pa_cons (pe_un un_neg pe_int) (pa_cons pe_int pa_nil))) (pa_cons (pe_tup (pa_cons (pe_un un_neg pe_int) (pa_cons pe_int pa_nil))) (pa_cons (pe_tup (pa_cons (pe_un un_neg pe_int) (pa_cons (pe_un un_neg pe_int) pa_nil))) (pa_cons (pe_tup (pa_cons (pe_un un_neg pe_int) (pa_cons (pe_un un_neg pe_int) pa_nil))) (pa_cons (pe_tup (pa_cons (pe_un un_neg pe_int) (pa_cons (pe_un un_neg pe_int) pa_nil))) pa_nil))))))))))))))
      (pss_cons (ps_set (i := 1) sc__law_round.nd rfl (.inl rfl) (pe_op op_cat (pv 1) (pe_lst (pa_cons (pe_tup (pa_cons pe_int (pa_cons (pe_un un_neg pe_int) pa_nil))) (pa_cons (pe_tup (pa_cons pe_int (pa_cons (pe_un un_neg pe_int) pa_nil))) (pa_cons (pe_tup (pa_cons pe_int (pa_cons (pe_un un_neg pe_int) pa_nil))) (pa_cons (pe_tup (pa_cons pe_int (pa_cons (pe_un un_neg pe_int) pa_nil))) pa_nil)))))))
      (pss_cons (ps_set (i := 2) sc__law_round.nd rfl (.inr rfl) (pe_tup (pa_cons (pe_op op_mulW (pe_cal c__law_take hr (by decide) (by rfl) (pa_cons (pv 0) (pa_cons pe_int pa_nil))) pe_int) (pa_cons (pe_op op_mulW (pe_cal c__law_take hr (by decide) (by rfl) (pa_cons (pv 0) (pa_cons pe_int pa_nil))) pe_int) pa_nil))))
      (pss_cons (ps_if (pt_cmpR op_eqI (pe_cal c__law_take hr (by decide) (by rfl) (pa_cons (pv 0) (pa_cons pe_int pa_nil))) pe_int (nomark _)) (pss_cons (ps_setLc (i := 4) (own := [("_law_k", 3), ("_law_way", 7)]) (g := gTup K 2 (gCons (gName 3) (gCons (gName 7) (gNil)))) (by rfl) sc__law_round.nd rfl rfl (sw_true rfl rfl rfl (by decide +kernel)) (pi_enumS (by rfl) B.b_enumerate (pa_cons (pv 1) pa_nil)) (blkOk_by (own := [("_law_k", 3), ("_law_way", 7)]) (N := ["_law_box_here", "_law_ways", "_law_middle", "_law_k", "_law_some", "_law_found", "_law_high", "_law_way", "_law_x", "_law_y", "_law_far"]) (sc := defScope s__law_round) (by decide +kernel)) (fun _ _ _ _ _ => (pg_tupK (K := K) rfl (by rfl) (pgs_cons (pg_name (i := 3) sc__law_round.nd rfl (.inl rfl)) (pgs_cons (pg_name (i := 7) sc__law_round.nd rfl (.inl rfl)) pgs_nil)))) (fun _ _ _ _ _ => pts_one (PW.pt (pw_or (pt_cmpR op_eqI (pe_op op_modN (pv 3) pe_int) pe_int (nomark _)) (pw_or1 (pt_cmpR op_eqI (pe_cal c__law_take hr (by decide) (by rfl) (pa_cons (pv 0) (pa_cons pe_int pa_nil))) pe_int (nomark _)))))) (fun _ _ _ _ _ => (pv 7)))
      (pss_one (ps_ret (pe_lc (own := [("_law_x", 8), ("_law_y", 9), ("_law_far", 10)]) (g := gTup K 3 (gCons (gName 8) (gCons (gName 9) (gCons (gName 10) (gNil))))) (tt := tYes) (by rfl) sc__law_round.nd (pi_list (pe_lc (own := [("_law_x", 8), ("_law_y", 9)]) (g := gTup K 2 (gCons (gName 8) (gCons (gName 9) (gNil)))) (tt := tYes) (by rfl) sc__law_round.nd (pi_list (pv 4)) (blkOk_by (own := [("_law_x", 8), ("_law_y", 9)]) (N := ["_law_box_here", "_law_ways", "_law_middle", "_law_k", "_law_some", "_law_found", "_law_high", "_law_way", "_law_x", "_law_y", "_law_far"]) (sc := defScope s__law_round) (by decide +kernel)) (fun _ _ _ _ _ => (pg_tupK (K := K) rfl (by rfl) (pgs_cons (pg_name (i := 8) sc__law_round.nd rfl (.inl rfl)) (pgs_cons (pg_name (i := 9) sc__law_round.nd rfl (.inl rfl)) pgs_nil)))) (fun _ _ _ _ _ => pts_nil) (fun _ _ _ _ _ => (pe_tup (pa_cons (pv 8) (pa_cons (pv 9) (pa_cons (pe_op op_add pe_int (pe_cal c__law_take hr (by decide) (by rfl) (pa_cons (pv 0) (pa_cons pe_int pa_nil)))) pa_nil))))))) (blkOk_by (own := [("_law_x", 8), ("_law_y", 9), ("_law_far", 10)]) (N := ["_law_box_here", "_law_ways", "_law_middle", "_law_k", "_law_some", "_law_found", "_law_high", "_law_way", "_law_x", "_law_y", "_law_far"]) (sc := defScope s__law_round) (by decide +kernel)) (fun _ _ _ _ _ => (pg_tupK (K := K) rfl (by rfl) (pgs_cons (pg_name (i := 8) sc__law_round.nd rfl (.inl rfl)) (pgs_cons (pg_name (i := 9) sc__law_round.nd rfl (.inl rfl)) (pgs_cons (pg_name (i := 10) sc__law_round.nd rfl (.inl rfl)) pgs_nil))))) (fun _ _ _ _ _ => pts_nil) (fun _ _ _ _ _ => (pe_tup (pa_cons (pe_op op_add (pe_ix (ix_tupK (K := K) rfl) (pv 2) pe_int (fun _ _ => rfl)) (pe_op op_mulW (pv 8) (pv 10))) (pa_cons (pe_op op_add (pe_ix (ix_tupK (K := K) rfl) (pv 2) pe_int (fun _ _ => rfl)) (pe_op op_mulW (pv 9) (pv 10))) pa_nil)))))))) pss_nil)
      (pss_cons (ps_set (i := 5) sc__law_round.nd rfl (.inl rfl) (pe_lst (pa_cons (pv 2) (pa_cons (pe_tup (pa_cons (pe_op op_add (pe_ix ix_tup (pv 2) pe_int (fun _ _ => rfl)) pe_int) (pa_cons (pe_ix ix_tup (pv 2) pe_int (fun _ _ => rfl)) pa_nil))) pa_nil))))
      (pss_cons (ps_for PassesOwn.never (by rfl) (pi_range1 (by rfl) B.b_range (pa_cons (pe_op op_add pe_int (pe_cal c__law_take hr (by decide) (by rfl) (pa_cons (pv 0) (pa_cons pe_int pa_nil)))) pa_nil)) (pg_name (i := 3) sc__law_round.nd rfl (.inl rfl)) (pss_cons (ps_set (i := 6) sc__law_round.nd rfl (.inl rfl) (pe_op op_add pe_int (pe_cal c__law_take hr (by decide) (by rfl) (pa_cons (pv 0) (pa_cons pe_int pa_nil)))))
      (pss_one (ps_set (i := 5) sc__law_round.nd rfl (.inl rfl) (pe_op op_cat (pv 5) (pe_lst (pa_cons (pe_tup (pa_cons (pe_op op_sub (pe_op op_add (pe_ix ix_tup (pv 2) pe_int (fun _ _ => rfl)) pe_int) (pe_op op_mulW pe_int (pv 3))) (pa_cons (pe_op op_add (pe_ix ix_tup (pv 2) pe_int (fun _ _ => rfl)) (pv 6)) pa_nil))) (pa_cons (pe_tup (pa_cons (pe_op op_sub (pe_op op_add (pe_ix ix_tup (pv 2) pe_int (fun _ _ => rfl)) pe_int) (pe_op op_mulW pe_int (pv 3))) (pa_cons (pe_op op_add (pe_ix ix_tup (pv 2) pe_int (fun _ _ => rfl)) (pv 6)) pa_nil))) pa_nil))))))))
      (pss_one (ps_ret (pv 5))))))))), ?_⟩
  have GA := Go.refl (bx := bx) H
  walk_at "rx"
  intro t0 np_t0
  have nb_t0 := BX.fresh np_t0
  have S_t0 := Same.up (H := H) (o := .tup [.int 1, .int 0]) np_t0
  have h_t0 : upd H t0 (.tup [.int 1, .int 0]) t0 = some (.tup [.int 1, .int 0]) := upd_same
  generalize upd H t0 (.tup [.int 1, .int 0]) = Kt0 at S_t0 h_t0 ⊢
  have BX := BX.same S_t0
  have GA := GA.trans (Go.of S_t0)
  clear S_t0 np_t0
  walk_at "rx"
  intro t1 np_t1
  have nb_t1 := BX.fresh np_t1
  have S_t1 := Same.up (H := Kt0) (o := .tup [.int 3, .int 1]) np_t1
  have h_t1 : upd Kt0 t1 (.tup [.int 3, .int 1]) t1 = some (.tup [.int 3, .int 1]) := upd_same
  generalize upd Kt0 t1 (.tup [.int 3, .int 1]) = Kt1 at S_t1 h_t1 ⊢
  have BX := BX.same S_t1
  have GA := GA.trans (Go.of S_t1)
  have h_t0 := S_t1 _ _ h_t0
  clear S_t1 np_t1
  walk_at "rx"
  intro t2 np_t2
  have nb_t2 := BX.fresh np_t2
  have S_t2 := Same.up (H := Kt1) (o := .tup [.int 2, .int 2]) np_t2
  have h_t2 : upd Kt1 t2 (.tup [.int 2, .int 2]) t2 = some (.tup [.int 2, .int 2]) := upd_same
  generalize upd Kt1 t2 (.tup [.int 2, .int 2]) = Kt2 at S_t2 h_t2 ⊢
  have BX := BX.same S_t2
  have GA := GA.trans (Go.of S_t2)
  have h_t0 := S_t2 _ _ h_t0
  have h_t1 := S_t2 _ _ h_t1
  clear S_t2 np_t2
  walk_at "rx"
  intro t3 np_t3
  have nb_t3 := BX.fresh np_t3
  have S_t3 := Same.up (H := Kt2) (o := .tup [.int 1, .int 3]) np_t3
  have h_t3 : upd Kt2 t3 (.tup [.int 1, .int 3]) t3 = some (.tup [.int 1, .int 3]) := upd_same
  generalize upd Kt2 t3 (.tup [.int 1, .int 3]) = Kt3 at S_t3 h_t3 ⊢
  have BX := BX.same S_t3
  have GA := GA.trans (Go.of S_t3)
  have h_t0 := S_t3 _ _ h_t0
  have h_t1 := S_t3 _ _ h_t1
  have h_t2 := S_t3 _ _ h_t2
  clear S_t3 np_t3
  walk_at "rx"
  intro t4 np_t4
  have nb_t4 := BX.fresh np_t4
  have S_t4 := Same.up (H := Kt3) (o := .tup [.int 0, .int 1]) np_t4
  have h_t4 : upd Kt3 t4 (.tup [.int 0, .int 1]) t4 = some (.tup [.int 0, .int 1]) := upd_same
  generalize upd Kt3 t4 (.tup [.int 0, .int 1]) = Kt4 at S_t4 h_t4 ⊢
  have BX := BX.same S_t4
  have GA := GA.trans (Go.of S_t4)
  have h_t0 := S_t4 _ _ h_t0
  have h_t1 := S_t4 _ _ h_t1
  have h_t2 := S_t4 _ _ h_t2
  have h_t3 := S_t4 _ _ h_t3
  clear S_t4 np_t4
  walk_at "rx"
  intro t5 np_t5
  have nb_t5 := BX.fresh np_t5
  have S_t5 := Same.up (H := Kt4) (o := .tup [.int (-1), .int 3]) np_t5
  have h_t5 : upd Kt4 t5 (.tup [.int (-1), .int 3]) t5 = some (.tup [.int (-1), .int 3]) := upd_same
  generalize upd Kt4 t5 (.tup [.int (-1), .int 3]) = Kt5 at S_t5 h_t5 ⊢
  have BX := BX.same S_t5
  have GA := GA.trans (Go.of S_t5)
  have h_t0 := S_t5 _ _ h_t0
  have h_t1 := S_t5 _ _ h_t1
  have h_t2 := S_t5 _ _ h_t2
  have h_t3 := S_t5 _ _ h_t3
  have h_t4 := S_t5 _ _ h_t4
  clear S_t5 np_t5
  walk_at "rx"
  intro t6 np_t6
  have nb_t6 := BX.fresh np_t6
  have S_t6 := Same.up (H := Kt5) (o := .tup [.int (-2), .int 2]) np_t6
  have h_t6 : upd Kt5 t6 (.tup [.int (-2), .int 2]) t6 = some (.tup [.int (-2), .int 2]) := upd_same
  generalize upd Kt5 t6 (.tup [.int (-2), .int 2]) = Kt6 at S_t6 h_t6 ⊢
  have BX := BX.same S_t6
  have GA := GA.trans (Go.of S_t6)
  have h_t0 := S_t6 _ _ h_t0
  have h_t1 := S_t6 _ _ h_t1
  have h_t2 := S_t6 _ _ h_t2
  have h_t3 := S_t6 _ _ h_t3
  have h_t4 := S_t6 _ _ h_t4
  have h_t5 := S_t6 _ _ h_t5
  clear S_t6 np_t6
  walk_at "rx"
  intro t7 np_t7
  have nb_t7 := BX.fresh np_t7
  have S_t7 := Same.up (H := Kt6) (o := .tup [.int (-3), .int 1]) np_t7
  have h_t7 : upd Kt6 t7 (.tup [.int (-3), .int 1]) t7 = some (.tup [.int (-3), .int 1]) := upd_same
  generalize upd Kt6 t7 (.tup [.int (-3), .int 1]) = Kt7 at S_t7 h_t7 ⊢
  have BX := BX.same S_t7
  have GA := GA.trans (Go.of S_t7)
  have h_t0 := S_t7 _ _ h_t0
  have h_t1 := S_t7 _ _ h_t1
  have h_t2 := S_t7 _ _ h_t2
  have h_t3 := S_t7 _ _ h_t3
  have h_t4 := S_t7 _ _ h_t4
  have h_t5 := S_t7 _ _ h_t5
  have h_t6 := S_t7 _ _ h_t6
  clear S_t7 np_t7
  walk_at "rx"
  intro t8 np_t8
  have nb_t8 := BX.fresh np_t8
  have S_t8 := Same.up (H := Kt7) (o := .tup [.int (-1), .int 0]) np_t8
  have h_t8 : upd Kt7 t8 (.tup [.int (-1), .int 0]) t8 = some (.tup [.int (-1), .int 0]) := upd_same
  generalize upd Kt7 t8 (.tup [.int (-1), .int 0]) = Kt8 at S_t8 h_t8 ⊢
  have BX := BX.same S_t8
  have GA := GA.trans (Go.of S_t8)
  have h_t0 := S_t8 _ _ h_t0
  have h_t1 := S_t8 _ _ h_t1
  have h_t2 := S_t8 _ _ h_t2
  have h_t3 := S_t8 _ _ h_t3
  have h_t4 := S_t8 _ _ h_t4
  have h_t5 := S_t8 _ _ h_t5
  have h_t6 := S_t8 _ _ h_t6
  have h_t7 := S_t8 _ _ h_t7
  clear S_t8 np_t8
  walk_at "rx"
  intro t9 np_t9
  have nb_t9 := BX.fresh np_t9
  have S_t9 := Same.up (H := Kt8) (o := .tup [.int (-3), .int (-1)]) np_t9
  have h_t9 : upd Kt8 t9 (.tup [.int (-3), .int (-1)]) t9 = some (.tup [.int (-3), .int (-1)]) := upd_same
  generalize upd Kt8 t9 (.tup [.int (-3), .int (-1)]) = Kt9 at S_t9 h_t9 ⊢
  have BX := BX.same S_t9
  have GA := GA.trans (Go.of S_t9)
  have h_t0 := S_t9 _ _ h_t0
  have h_t1 := S_t9 _ _ h_t1
  have h_t2 := S_t9 _ _ h_t2
  have h_t3 := S_t9 _ _ h_t3
  have h_t4 := S_t9 _ _ h_t4
  have h_t5 := S_t9 _ _ h_t5
  have h_t6 := S_t9 _ _ h_t6
  have h_t7 := S_t9 _ _ h_t7
  have h_t8 := S_t9 _ _ h_t8
  clear S_t9 np_t9
  walk_at "rx"
  intro t10 np_t10
  have nb_t10 := BX.fresh np_t10
  have S_t10 := Same.up (H := Kt9) (o := .tup [.int (-2), .int (-2)]) np_t10
  have h_t10 : upd Kt9 t10 (.tup [.int (-2), .int (-2)]) t10 = some (.tup [.int (-2), .int (-2)]) := upd_same
  generalize upd Kt9 t10 (.tup [.int (-2), .int (-2)]) = Kt10 at S_t10 h_t10 ⊢
  have BX := BX.same S_t10
  have GA := GA.trans (Go.of S_t10)
  have h_t0 := S_t10 _ _ h_t0
  have h_t1 := S_t10 _ _ h_t1
  have h_t2 := S_t10 _ _ h_t2
  have h_t3 := S_t10 _ _ h_t3
  have h_t4 := S_t10 _ _ h_t4
  have h_t5 := S_t10 _ _ h_t5
  have h_t6 := S_t10 _ _ h_t6
  have h_t7 := S_t10 _ _ h_t7
  have h_t8 := S_t10 _ _ h_t8
  have h_t9 := S_t10 _ _ h_t9
  clear S_t10 np_t10
  walk_at "rx"
  intro t11 np_t11
  have nb_t11 := BX.fresh np_t11
  have S_t11 := Same.up (H := Kt10) (o := .tup [.int (-1), .int (-3)]) np_t11
  have h_t11 : upd Kt10 t11 (.tup [.int (-1), .int (-3)]) t11 = some (.tup [.int (-1), .int (-3)]) := upd_same
  generalize upd Kt10 t11 (.tup [.int (-1), .int (-3)]) = Kt11 at S_t11 h_t11 ⊢
  have BX := BX.same S_t11
  have GA := GA.trans (Go.of S_t11)
  have h_t0 := S_t11 _ _ h_t0
  have h_t1 := S_t11 _ _ h_t1
  have h_t2 := S_t11 _ _ h_t2
  have h_t3 := S_t11 _ _ h_t3
  have h_t4 := S_t11 _ _ h_t4
  have h_t5 := S_t11 _ _ h_t5
  have h_t6 := S_t11 _ _ h_t6
  have h_t7 := S_t11 _ _ h_t7
  have h_t8 := S_t11 _ _ h_t8
  have h_t9 := S_t11 _ _ h_t9
  have h_t10 := S_t11 _ _ h_t10
  clear S_t11 np_t11
  walk_at "rx"
  intro l1 np_l1
  have nb_l1 := BX.fresh np_l1
  have S_l1 := Same.up (H := Kt11) (o := .lst [.ref t0, .ref t1, .ref t2, .ref t3, .ref t4, .ref t5, .ref t6, .ref t7, .ref t8, .ref t9, .ref t10, .ref t11]) np_l1
  have h_l1 : upd Kt11 l1 (.lst [.ref t0, .ref t1, .ref t2, .ref t3, .ref t4, .ref t5, .ref t6, .ref t7, .ref t8, .ref t9, .ref t10, .ref t11]) l1 = some (.lst [.ref t0, .ref t1, .ref t2, .ref t3, .ref t4, .ref t5, .ref t6, .ref t7, .ref t8, .ref t9, .ref t10, .ref t11]) := upd_same
  generalize upd Kt11 l1 (.lst [.ref t0, .ref t1, .ref t2, .ref t3, .ref t4, .ref t5, .ref t6, .ref t7, .ref t8, .ref t9, .ref t10, .ref t11]) = Kl1 at S_l1 h_l1 ⊢
  have BX := BX.same S_l1
  have GA := GA.trans (Go.of S_l1)
  have h_t0 := S_l1 _ _ h_t0
  have h_t1 := S_l1 _ _ h_t1
  have h_t2 := S_l1 _ _ h_t2
  have h_t3 := S_l1 _ _ h_t3
  have h_t4 := S_l1 _ _ h_t4
  have h_t5 := S_l1 _ _ h_t5
  have h_t6 := S_l1 _ _ h_t6
  have h_t7 := S_l1 _ _ h_t7
  have h_t8 := S_l1 _ _ h_t8
  have h_t9 := S_l1 _ _ h_t9
  have h_t10 := S_l1 _ _ h_t10
  have h_t11 := S_l1 _ _ h_t11
  clear S_l1 np_l1
  walk_at "rx"
  intro t12 np_t12
  have nb_t12 := BX.fresh np_t12
  have S_t12 := Same.up (H := Kl1) (o := .tup [.int 0, .int (-1)]) np_t12
  have h_t12 : upd Kl1 t12 (.tup [.int 0, .int (-1)]) t12 = some (.tup [.int 0, .int (-1)]) := upd_same
  generalize upd Kl1 t12 (.tup [.int 0, .int (-1)]) = Kt12 at S_t12 h_t12 ⊢
  have BX := BX.same S_t12
  have GA := GA.trans (Go.of S_t12)
  have h_t0 := S_t12 _ _ h_t0
  have h_t1 := S_t12 _ _ h_t1
  have h_t2 := S_t12 _ _ h_t2
  have h_t3 := S_t12 _ _ h_t3
  have h_t4 := S_t12 _ _ h_t4
  have h_t5 := S_t12 _ _ h_t5
  have h_t6 := S_t12 _ _ h_t6
  have h_t7 := S_t12 _ _ h_t7
  have h_t8 := S_t12 _ _ h_t8
  have h_t9 := S_t12 _ _ h_t9
  have h_t10 := S_t12 _ _ h_t10
  have h_t11 := S_t12 _ _ h_t11
  have h_l1 := S_t12 _ _ h_l1
  clear S_t12 np_t12
  walk_at "rx"
  intro t13 np_t13
  have nb_t13 := BX.fresh np_t13
  have S_t13 := Same.up (H := Kt12) (o := .tup [.int 1, .int (-3)]) np_t13
  have h_t13 : upd Kt12 t13 (.tup [.int 1, .int (-3)]) t13 = some (.tup [.int 1, .int (-3)]) := upd_same
  generalize upd Kt12 t13 (.tup [.int 1, .int (-3)]) = Kt13 at S_t13 h_t13 ⊢
  have BX := BX.same S_t13
  have GA := GA.trans (Go.of S_t13)
  have h_t0 := S_t13 _ _ h_t0
  have h_t1 := S_t13 _ _ h_t1
  have h_t2 := S_t13 _ _ h_t2
  have h_t3 := S_t13 _ _ h_t3
  have h_t4 := S_t13 _ _ h_t4
  have h_t5 := S_t13 _ _ h_t5
  have h_t6 := S_t13 _ _ h_t6
  have h_t7 := S_t13 _ _ h_t7
  have h_t8 := S_t13 _ _ h_t8
  have h_t9 := S_t13 _ _ h_t9
  have h_t10 := S_t13 _ _ h_t10
  have h_t11 := S_t13 _ _ h_t11
  have h_l1 := S_t13 _ _ h_l1
  have h_t12 := S_t13 _ _ h_t12
  clear S_t13 np_t13
  walk_at "rx"
  intro t14 np_t14
  have nb_t14 := BX.fresh np_t14
  have S_t14 := Same.up (H := Kt13) (o := .tup [.int 2, .int (-2)]) np_t14
  have h_t14 : upd Kt13 t14 (.tup [.int 2, .int (-2)]) t14 = some (.tup [.int 2, .int (-2)]) := upd_same
  generalize upd Kt13 t14 (.tup [.int 2, .int (-2)]) = Kt14 at S_t14 h_t14 ⊢
  have BX := BX.same S_t14
  have GA := GA.trans (Go.of S_t14)
  have h_t0 := S_t14 _ _ h_t0
  have h_t1 := S_t14 _ _ h_t1
  have h_t2 := S_t14 _ _ h_t2
  have h_t3 := S_t14 _ _ h_t3
  have h_t4 := S_t14 _ _ h_t4
  have h_t5 := S_t14 _ _ h_t5
  have h_t6 := S_t14 _ _ h_t6
  have h_t7 := S_t14 _ _ h_t7
  have h_t8 := S_t14 _ _ h_t8
  have h_t9 := S_t14 _ _ h_t9
  have h_t10 := S_t14 _ _ h_t10
  have h_t11 := S_t14 _ _ h_t11
  have h_l1 := S_t14 _ _ h_l1
  have h_t12 := S_t14 _ _ h_t12
  have h_t13 := S_t14 _ _ h_t13
  clear S_t14 np_t14
  walk_at "rx"
  intro t15 np_t15
  have nb_t15 := BX.fresh np_t15
  have S_t15 := Same.up (H := Kt14) (o := .tup [.int 3, .int (-1)]) np_t15
  have h_t15 : upd Kt14 t15 (.tup [.int 3, .int (-1)]) t15 = some (.tup [.int 3, .int (-1)]) := upd_same
  generalize upd Kt14 t15 (.tup [.int 3, .int (-1)]) = Kt15 at S_t15 h_t15 ⊢
  have BX := BX.same S_t15
  have GA := GA.trans (Go.of S_t15)
  have h_t0 := S_t15 _ _ h_t0
  have h_t1 := S_t15 _ _ h_t1
  have h_t2 := S_t15 _ _ h_t2
  have h_t3 := S_t15 _ _ h_t3
  have h_t4 := S_t15 _ _ h_t4
  have h_t5 := S_t15 _ _ h_t5
  have h_t6 := S_t15 _ _ h_t6
  have h_t7 := S_t15 _ _ h_t7
  have h_t8 := S_t15 _ _ h_t8
  have h_t9 := S_t15 _ _ h_t9
  have h_t10 := S_t15 _ _ h_t10
  have h_t11 := S_t15 _ _ h_t11
  have h_l1 := S_t15 _ _ h_l1
  have h_t12 := S_t15 _ _ h_t12
  have h_t13 := S_t15 _ _ h_t13
  have h_t14 := S_t15 _ _ h_t14
  clear S_t15 np_t15
  walk_at "rx"
  intro l2 np_l2
  have nb_l2 := BX.fresh np_l2
  have S_l2 := Same.up (H := Kt15) (o := .lst [.ref t12, .ref t13, .ref t14, .ref t15]) np_l2
  have h_l2 : upd Kt15 l2 (.lst [.ref t12, .ref t13, .ref t14, .ref t15]) l2 = some (.lst [.ref t12, .ref t13, .ref t14, .ref t15]) := upd_same
  generalize upd Kt15 l2 (.lst [.ref t12, .ref t13, .ref t14, .ref t15]) = Kl2 at S_l2 h_l2 ⊢
  have BX := BX.same S_l2
  have GA := GA.trans (Go.of S_l2)
  have h_t0 := S_l2 _ _ h_t0
  have h_t1 := S_l2 _ _ h_t1
  have h_t2 := S_l2 _ _ h_t2
  have h_t3 := S_l2 _ _ h_t3
  have h_t4 := S_l2 _ _ h_t4
  have h_t5 := S_l2 _ _ h_t5
  have h_t6 := S_l2 _ _ h_t6
  have h_t7 := S_l2 _ _ h_t7
  have h_t8 := S_l2 _ _ h_t8
  have h_t9 := S_l2 _ _ h_t9
  have h_t10 := S_l2 _ _ h_t10
  have h_t11 := S_l2 _ _ h_t11
  have h_l1 := S_l2 _ _ h_l1
  have h_t12 := S_l2 _ _ h_t12
  have h_t13 := S_l2 _ _ h_t13
  have h_t14 := S_l2 _ _ h_t14
  have h_t15 := S_l2 _ _ h_t15
  clear S_l2 np_l2
  walk_at "rx"
  refine q_cat h_l1 h_l2 (Nat.le_of_ble_eq_true rfl) ?_
  intro l3 np_l3
  have nb_l3 := BX.fresh np_l3
  have S_l3 := Same.up (H := Kl2) (o := .lst [.ref t0, .ref t1, .ref t2, .ref t3, .ref t4, .ref t5, .ref t6, .ref t7, .ref t8, .ref t9, .ref t10, .ref t11, .ref t12, .ref t13, .ref t14, .ref t15]) np_l3
  have h_l3 : upd Kl2 l3 (.lst [.ref t0, .ref t1, .ref t2, .ref t3, .ref t4, .ref t5, .ref t6, .ref t7, .ref t8, .ref t9, .ref t10, .ref t11, .ref t12, .ref t13, .ref t14, .ref t15]) l3 = some (.lst [.ref t0, .ref t1, .ref t2, .ref t3, .ref t4, .ref t5, .ref t6, .ref t7, .ref t8, .ref t9, .ref t10, .ref t11, .ref t12, .ref t13, .ref t14, .ref t15]) := upd_same
  rw [show upd Kl2 l3 (.lst ([V.ref t0, V.ref t1, V.ref t2, V.ref t3, V.ref t4, V.ref t5, V.ref t6, V.ref t7, V.ref t8, V.ref t9, V.ref t10, V.ref t11] ++ [V.ref t12, V.ref t13, V.ref t14, V.ref t15])) = upd Kl2 l3 (.lst [.ref t0, .ref t1, .ref t2, .ref t3, .ref t4, .ref t5, .ref t6, .ref t7, .ref t8, .ref t9, .ref t10, .ref t11, .ref t12, .ref t13, .ref t14, .ref t15]) from rfl]
  generalize upd Kl2 l3 (.lst [.ref t0, .ref t1, .ref t2, .ref t3, .ref t4, .ref t5, .ref t6, .ref t7, .ref t8, .ref t9, .ref t10, .ref t11, .ref t12, .ref t13, .ref t14, .ref t15]) = Kl3 at S_l3 h_l3 ⊢
  have BX := BX.same S_l3
  have GA := GA.trans (Go.of S_l3)
  have h_t0 := S_l3 _ _ h_t0
  have h_t1 := S_l3 _ _ h_t1
  have h_t2 := S_l3 _ _ h_t2
  have h_t3 := S_l3 _ _ h_t3
  have h_t4 := S_l3 _ _ h_t4
  have h_t5 := S_l3 _ _ h_t5
  have h_t6 := S_l3 _ _ h_t6
  have h_t7 := S_l3 _ _ h_t7
  have h_t8 := S_l3 _ _ h_t8
  have h_t9 := S_l3 _ _ h_t9
  have h_t10 := S_l3 _ _ h_t10
  have h_t11 := S_l3 _ _ h_t11
  have h_l1 := S_l3 _ _ h_l1
  have h_t12 := S_l3 _ _ h_t12
  have h_t13 := S_l3 _ _ h_t13
  have h_t14 := S_l3 _ _ h_t14
  have h_t15 := S_l3 _ _ h_t15
  have h_l2 := S_l3 _ _ h_l2
  clear S_l3 np_l3
  have LW : Li K false PZ Kl3 l3 waysL := ⟨_, h_l3, (((((((((((((((Pz.one ⟨t0, rfl, h_t0⟩).snoc ⟨t1, rfl, h_t1⟩).snoc ⟨t2, rfl, h_t2⟩).snoc ⟨t3, rfl, h_t3⟩).snoc ⟨t4, rfl, h_t4⟩).snoc ⟨t5, rfl, h_t5⟩).snoc ⟨t6, rfl, h_t6⟩).snoc ⟨t7, rfl, h_t7⟩).snoc ⟨t8, rfl, h_t8⟩).snoc ⟨t9, rfl, h_t9⟩).snoc ⟨t10, rfl, h_t10⟩).snoc ⟨t11, rfl, h_t11⟩).snoc ⟨t12, rfl, h_t12⟩).snoc ⟨t13, rfl, h_t13⟩).snoc ⟨t14, rfl, h_t14⟩).snoc ⟨t15, rfl, h_t15⟩⟩
  clear h_t0
  clear h_t1
  clear h_t2
  clear h_t3
  clear h_t4
  clear h_t5
  clear h_t6
  clear h_t7
  clear h_t8
  clear h_t9
  clear h_t10
  clear h_t11
  clear h_t12
  clear h_t13
  clear h_t14
  clear h_t15
  clear h_l1 h_l2 h_l3
  walk_at "rx"
  refine ⟨bx, 9, _, rfl, BX, by first | decide | omega, (Bt.small (by first | decide | omega) (by first | decide | omega)).mono (by decide), by omega, fun d1 Hd1 d10 d11 gd1 BX1 => ?_⟩
  have GA := GA.trans gd1
  have LW := LW.go nb_l3 BX gd1
  walk_at "rx"
  have b1 : Bt 4 d1 := ⟨show _ < 16 by omega⟩
  refine q_I (mulW (b1.mono (show 4 ≤ 60 by decide)) (⟨by decide⟩ : Bt 3 3) (by decide)) ?_
  walk_at "rx"
  refine ⟨bx, 9, _, rfl, BX1, by first | decide | omega, (Bt.small (by first | decide | omega) (by first | decide | omega)).mono (by decide), by omega, fun d2 Hd2 d20 d21 gd2 BX2 => ?_⟩
  have GA := GA.trans gd2
  have LW := LW.go nb_l3 BX1 gd2
  walk_at "rx"
  have b2 : Bt 4 d2 := ⟨show _ < 16 by omega⟩
  refine q_I (mulW (b2.mono (show 4 ≤ 60 by decide)) (⟨by decide⟩ : Bt 3 3) (by decide)) ?_
  walk_at "rx"
  intro mi np_mi
  have nb_mi := BX2.fresh np_mi
  have S_mi := Same.up (H := Hd2) (o := .tup [.int (d1 * 3), .int (d2 * 3)]) np_mi
  have h_mi : upd Hd2 mi (.tup [.int (d1 * 3), .int (d2 * 3)]) mi = some (.tup [.int (d1 * 3), .int (d2 * 3)]) := upd_same
  generalize upd Hd2 mi (.tup [.int (d1 * 3), .int (d2 * 3)]) = Kmi at S_mi h_mi ⊢
  have GA := GA.trans (Go.of S_mi)
  have LW := LW.same S_mi
  have BX2 := BX2.same S_mi
  clear S_mi np_mi
  have m1 : Bt 5 (d1 * 3) := ⟨show _ < 32 by omega⟩
  have m2 : Bt 5 (d2 * 3) := ⟨show _ < 32 by omega⟩
  generalize d1 * 3 = mx at m1 h_mi ⊢
  generalize d2 * 3 = my at m2 h_mi ⊢
  walk_at "rx"
  refine ⟨bx, 2, _, rfl, BX2, by first | decide | omega, (Bt.small (by first | decide | omega) (by first | decide | omega)).mono (by decide), by omega, fun d3 Hd3 d30 d31 gd3 BX3 => ?_⟩
  have GA := GA.trans gd3
  have LW := LW.go nb_l3 BX2 gd3
  have h_mi := gd3 _ _ h_mi nb_mi
  walk_at "rx"
  refine q_dec (fun e => ?_) (fun e => ?_)
  · obtain ⟨ws, hw, PW⟩ := LW
    have hw : Hd3 l3 = some (.lst ws) := hw
    have wl := PW.len
    walk_at "rx"
    refine ⟨l3, rfl, lc_enumE (tu := false) (xs := ws) hw (fun D i H' => Go bx Hd3 H' ∧ Box4 H' bx (n + 10 + i) ∧ ∃ zs, Li K false PZ H' D zs ∧ zs.length ≤ i ∧ (1 ≤ i → 1 ≤ zs.length) ∧ SmZ 2 zs) (fun D nD => ⟨Go.of (Same.up nD), Box4.put (BX3.mono (by omega)) (BX3.fresh nD), [], Li.nil upd_same, Nat.le_refl _, fun z => by omega, fun _ z => nomatch z⟩) (fun D i H' _ nD ⟨g, _⟩ => g _ _ hw nb_l3) ?_ ?_⟩
    · rintro D i T x H5 hx nD ⟨G5, B5, zs, LZ, zl, z1, zm⟩ nT
      obtain ⟨pt, hpt, PX⟩ := PW.of hx
      have nbD := BX3.fresh nD
      have sp := ways_sm pt (List.mem_of_getElem? hpt)
      have hi : i < 16 := by have := (List.getElem?_eq_some_iff.mp hpt).1; exact this
      have ST := Same.up (o := .tup [.int (i : Nat), x]) nT
      have hT : upd H5 T (.tup [.int (i : Nat), x]) T = some (.tup [.int (i : Nat), x]) := upd_same
      generalize upd H5 T (.tup [.int (i : Nat), x]) = H6 at ST hT ⊢
      have G6 := G5.trans (Go.of ST)
      have B6 : Box4 H6 bx _ := B5.same ST
      have LZ := LZ.same ST
      have PX : PZ H6 x pt := ImR.im PX (Box4.im BX3 G6)
      walk_at "rx"
      refine ⟨rfl, ?_⟩
      walk_at "rx"
      refine q_I (by decide) ?_
      walk_at "rx"
      by_cases c : ((i : Nat) : Int).fmod 4 = 0
      · rw [if_pos (decide_eq_true c), if_pos rfl]
        walk_at "rx"
        obtain ⟨acc, e1, e2, LZ⟩ := LZ.push PX
        exact ⟨acc, e1, by rw [e2, sizeLine_eq]; omega, Go.put G6 nD, Box4.put (B6.mono (by omega)) nbD, _, LZ, by rw [List.length_append]; simp only [List.length_singleton]; omega, fun _ => by rw [List.length_append]; simp, zm.snoc sp.1 sp.2⟩
      · have hi1 : 1 ≤ i := by
          rcases Nat.eq_zero_or_pos i with z | z
          · subst z; exact absurd rfl c
          · exact z
        rw [if_neg (fun z => c (of_decide_eq_true z))]
        walk_at "rx"
        refine ⟨bx, 3, _, rfl, B6, by decide, (Bt.small (by decide) (by decide)).mono (by decide), by omega, fun d7 H7 d70 d71 g7 B7 => ?_⟩
        have LZ := LZ.go nbD B6 g7
        have PX : PZ H7 x pt := ImR.im PX (Box4.im B6 g7)
        walk_at "rx"
        by_cases c7 : d7 = 0
        · rw [if_pos (decide_eq_true c7)]
          walk_at "rx"
          obtain ⟨acc, e1, e2, LZ⟩ := LZ.push PX
          exact ⟨acc, e1, by rw [e2, sizeLine_eq]; omega, Go.put (G6.trans g7) nD, Box4.put (B7.mono (by omega)) nbD, _, LZ, by rw [List.length_append]; simp only [List.length_singleton]; omega, fun _ => by rw [List.length_append]; simp, zm.snoc sp.1 sp.2⟩
        · rw [if_neg (fun z => c7 (of_decide_eq_true z))]
          exact ⟨G6.trans g7, B7.mono (by omega), zs, LZ, by omega, fun _ => z1 hi1, zm⟩
    rintro D H5 nD ⟨G5, B5, zs, LZ, zl, z1, zm⟩
    have z1 := z1 (by rw [wl]; decide)
    have zl : zs.length ≤ 16 := by rw [wl] at zl; exact zl
    have B5 : Box4 H5 bx (n + 30) := B5.mono (by rw [wl]; show n + 10 + 16 ≤ n + 30; omega)
    have nbD := BX3.fresh nD
    have h_mi := G5 _ _ h_mi nb_mi
    have GA := GA.trans G5
    clear LW
    obtain ⟨vs, hD, PV⟩ := LZ
    have hD : H5 D = some (.lst vs) := hD
    have vl := PV.len
    walk_at "rx"
    refine ⟨D, rfl, ⟨_, SqL.of hD⟩, fun D2 nD2 => ?_⟩
    have nbD2 := B5.fresh nD2
    refine lc_list (xs := vs) (fun i H' => Go bx H5 H' ∧ Box4 H' bx (n + 30 + i) ∧ ∃ qs, Li K false P3 H' D2 qs ∧ qs.length = i ∧ ∀ q ∈ qs, Bt 2 q.1 ∧ Bt 2 q.2.1 ∧ Bt 3 q.2.2) ⟨Go.of (Same.up nD2), Box4.put (B5.mono (by omega)) nbD2, [], Li.nil upd_same, rfl, fun _ z => nomatch z⟩ (fun j H' _ ⟨z, _⟩ => SqL.of (z _ _ hD nbD)) ?_ ?_
    · rintro i x H6 hx ⟨G6, B6, qs, LQ, ql, qb⟩
      obtain ⟨pt, hpt, PX⟩ := PV.of hx
      have sp := zm pt (List.mem_of_getElem? hpt)
      have hi : i < 16 := by have := (List.getElem?_eq_some_iff.mp hpt).1; omega
      obtain ⟨t, rfl, ht⟩ := (ImR.im PX (Box4.im B5 G6) : PZ H6 x pt)
      walk_at "rx"
      refine ⟨rfl, ?_⟩
      walk_at "rx"
      refine ⟨bx, 4, _, rfl, B6, by decide, (Bt.small (by decide) (by decide)).mono (by decide), by omega, fun d7 H7 d70 d71 g7 B7 => ?_⟩
      have LQ := LQ.go nbD2 B6 g7
      walk_at "rx"
      intro T nT
      have ST := Same.up (o := .tup [.int pt.1, .int pt.2, .int (1 + d7)]) nT
      have hT : upd H7 T (.tup [.int pt.1, .int pt.2, .int (1 + d7)]) T = some (.tup [.int pt.1, .int pt.2, .int (1 + d7)]) := upd_same
      generalize upd H7 T (.tup [.int pt.1, .int pt.2, .int (1 + d7)]) = H8 at ST hT ⊢
      have LQ := LQ.same ST
      obtain ⟨acc, e1, e2, LQ⟩ := LQ.push (x := (pt.1, pt.2, 1 + d7)) ⟨T, rfl, hT⟩
      refine ⟨acc, e1, by rw [e2, sizeLine_eq]; omega, Go.put ((G6.trans g7).trans (Go.of ST)) nD2, Box4.put ((B7.same ST).mono (by omega)) nbD2, _, LQ, by rw [List.length_append, ql]; rfl, fun z hz => ?_⟩
      rcases List.mem_append.mp hz with w | w
      · exact qb z w
      · rw [List.mem_singleton.mp w]
        exact ⟨sp.1, sp.2, ⟨show (1 + d7).natAbs < 8 by omega⟩⟩
    rintro H6 ⟨G6, B6, qs, LQ, ql, qb⟩
    have h_mi := G6 _ _ h_mi nb_mi
    have GA := GA.trans G6
    have B6 : Box4 H6 bx (n + 50) := B6.mono (by omega)
    clear hD
    obtain ⟨us, hD, PU⟩ := LQ
    have hD : H6 D2 = some (.lst us) := hD
    have ul := PU.len
    walk_at "rx"
    refine ⟨D2, rfl, ⟨_, SqL.of hD⟩, fun D3 nD3 => ?_⟩
    have nbD3 := B6.fresh nD3
    refine lc_list (xs := us) (fun i H' => Same H6 H' ∧ ∃ ps, Li K false PZ H' D3 ps ∧ ps.length = i ∧ SmZ 10 ps) ⟨Same.up nD3, [], Li.nil upd_same, rfl, fun _ z => nomatch z⟩ (fun j H' _ ⟨z, _⟩ => SqL.of (z _ _ hD)) ?_ ?_
    · rintro i x H7 hx ⟨S7, ps, LP, pl, pm⟩
      obtain ⟨u, hu, PX⟩ := PU.of hx
      obtain ⟨u1, u2, u3⟩ := u
      obtain ⟨s1, s2, s3⟩ := qb _ (List.mem_of_getElem? hu)
      have hi : i < 16 := by have := (List.getElem?_eq_some_iff.mp hu).1; omega
      obtain ⟨t, rfl, ht⟩ := (ImR.im PX (Same.im S7) : P3 H7 x (u1, u2, u3))
      have h_mi := S7 _ _ h_mi
      walk_at "rx"
      refine ⟨rfl, ?_⟩
      walk_at "rx"
      refine q_I (mulW (s1.mono (show 2 ≤ 60 by decide)) (s3.mono (show 3 ≤ 60 by decide)) (by decide)) ?_
      walk_at "rx"
      refine q_I (mulW (s2.mono (show 2 ≤ 60 by decide)) (s3.mono (show 3 ≤ 60 by decide)) (by decide)) ?_
      walk_at "rx"
      intro T nT
      have ST := Same.up (o := .tup [.int (mx + u1 * u3), .int (my + u2 * u3)]) nT
      have hT : upd H7 T (.tup [.int (mx + u1 * u3), .int (my + u2 * u3)]) T = some (.tup [.int (mx + u1 * u3), .int (my + u2 * u3)]) := upd_same
      generalize upd H7 T (.tup [.int (mx + u1 * u3), .int (my + u2 * u3)]) = H8 at ST hT ⊢
      have LP := LP.same ST
      obtain ⟨acc, e1, e2, LP⟩ := LP.push (x := (mx + u1 * u3, my + u2 * u3)) ⟨T, rfl, hT⟩
      exact ⟨acc, e1, by rw [e2, sizeLine_eq]; omega, Same.put (S7.trans ST) nD3, _, LP, by rw [List.length_append, pl]; rfl, pm.snoc ((m1.add2 ((s1.mul s3).mono (by decide))).mono (by decide)) ((m2.add2 ((s2.mul s3).mono (by decide))).mono (by decide))⟩
    · rintro H7 ⟨S7, ps, LP, pl, pm⟩
      exact q D3 ps H7 (GA.trans (Go.of S7)) ((B6.same S7).mono (by omega)) (GA.before nD3 nbD3) nbD3 LP.prs (by omega) (by omega) pm
  · walk_at "rx"
    intro m8 np_m8
    have nb_m8 := BX3.fresh np_m8
    have S_m8 := Same.up (H := Hd3) (o := .tup [.int (mx + 8), .int my]) np_m8
    have h_m8 : upd Hd3 m8 (.tup [.int (mx + 8), .int my]) m8 = some (.tup [.int (mx + 8), .int my]) := upd_same
    generalize upd Hd3 m8 (.tup [.int (mx + 8), .int my]) = Km8 at S_m8 h_m8 ⊢
    have GA := GA.trans (Go.of S_m8)
    have LW := LW.same S_m8
    have h_mi := S_m8 _ _ h_mi
    have BX3 := BX3.same S_m8
    clear S_m8 np_m8
    walk_at "rx"
    intro f0 np_f0
    have z_f0 := GA.before np_f0 (BX3.fresh np_f0)
    have nb_f0 := BX3.fresh np_f0
    have S_f0 := Same.up (H := Km8) (o := .lst [.ref mi, .ref m8]) np_f0
    have h_f0 : upd Km8 f0 (.lst [.ref mi, .ref m8]) f0 = some (.lst [.ref mi, .ref m8]) := upd_same
    generalize upd Km8 f0 (.lst [.ref mi, .ref m8]) = Kf0 at S_f0 h_f0 ⊢
    have GA := GA.trans (Go.of S_f0)
    have LW := LW.same S_f0
    have h_mi := S_f0 _ _ h_mi
    have BX3 := BX3.same S_f0
    have h_m8 := S_f0 _ _ h_m8
    clear S_f0 np_f0
    have LP : Li K false PZ Kf0 f0 [(mx, my), (mx + 8, my)] := ⟨_, h_f0, (Pz.one ⟨mi, rfl, h_mi⟩).snoc ⟨m8, rfl, h_m8⟩⟩
    have bm8 : Bt 6 (mx + 8) := ⟨by have := m1.lt; show _ < 64; omega⟩
    walk_at "rx"
    refine ⟨bx, 3, _, rfl, BX3, by first | decide | omega, (Bt.small (by first | decide | omega) (by first | decide | omega)).mono (by decide), by omega, fun d4 Hd4 d40 d41 gd4 BX4 => ?_⟩
    have GA := GA.trans gd4
    have LW := LW.go nb_l3 BX3 gd4
    have h_mi := gd4 _ _ h_mi nb_mi
    have h_m8 := gd4 _ _ h_m8 nb_m8
    have h_f0 := gd4 _ _ h_f0 nb_f0
    walk_at "rx"
    have LP := LP.go nb_f0 BX3 gd4
    refine ⟨_, rfl, by omega, by omega, ?_⟩
    refine for_range (lo := 0) (n := (1 + d4).toNat) (fun i σ H' => ∃ (l : Addr) (w3 w4 w6 w7 w8 w9 w10 : Option V) (ps : List PtZ), σ = [some (.ref bx), some (.ref l3), some (.ref mi), w3, w4, some (.ref l), w6, w7, w8, w9, w10] ∧ Go bx H H' ∧ Box4 H' bx (n + 40 + i) ∧ H' mi = some (.tup [.int mx, .int my]) ∧ Li K false PZ H' l ps ∧ l ≠ bx ∧ H l = none ∧ ps.length = 2 + 2 * i ∧ SmZ 10 ps) ⟨f0, _, _, _, _, _, _, _, [(mx, my), (mx + 8, my)], rfl, GA, BX4.mono (by omega), h_mi, LP, nb_f0, z_f0, rfl, ?_⟩ ?_ ?_
    · intro z hz
      rcases List.mem_cons.mp hz with e | e
      · subst e; exact ⟨m1.mono (by decide), m2.mono (by decide)⟩
      · rw [List.mem_singleton.mp e]; exact ⟨bm8.mono (by decide), m2.mono (by decide)⟩
    · rintro i σ H5 hi ⟨l, w3, w4, w6, w7, w8, w9, w10, ps, rfl, GA, BX, h_mi, LP, nbl, zl, pl, pm⟩
      have hi3 : i < 3 := by omega
      obtain ⟨n0, hn0, hn1⟩ : ∃ n0 : Int, n0 = n + 40 + i ∧ n0 < 990000 := ⟨_, rfl, by omega⟩
      rw [← hn0] at BX
      rw [show ((0 : Int) + ((i : Nat) : Int)) = ((i : Nat) : Int) from Int.zero_add _]
      walk_at "rx"
      refine ⟨bx, 5, _, rfl, BX, by first | decide | omega, (Bt.small (by first | decide | omega) (by first | decide | omega)).mono (by decide), by omega, fun d5 Hd41 d50 d51 gd41 BX41 => ?_⟩
      have GA := GA.trans gd41
      have h_mi := gd41 _ _ h_mi nb_mi
      have LP := LP.go nbl BX gd41
      walk_at "rx"
      refine q_I (mulW (⟨by decide⟩ : Bt 2 2) (⟨show _ < 256 by omega⟩ : Bt 8 ((i : Nat) : Int)) (by decide)) ?_
      walk_at "rx"
      intro a1 np_a1
      have nb_a1 := BX41.fresh np_a1
      have S_a1 := Same.up (H := Hd41) (o := .tup [.int (mx + 8 - 2 * (i : Nat)), .int (my + (1 + d5))]) np_a1
      have h_a1 : upd Hd41 a1 (.tup [.int (mx + 8 - 2 * (i : Nat)), .int (my + (1 + d5))]) a1 = some (.tup [.int (mx + 8 - 2 * (i : Nat)), .int (my + (1 + d5))]) := upd_same
      generalize upd Hd41 a1 (.tup [.int (mx + 8 - 2 * (i : Nat)), .int (my + (1 + d5))]) = Ka1 at S_a1 h_a1 ⊢
      have GA := GA.trans (Go.of S_a1)
      have h_mi := S_a1 _ _ h_mi
      have LP := LP.same S_a1
      have BX41 := BX41.same S_a1
      clear S_a1 np_a1
      walk_at "rx"
      refine q_I (mulW (⟨by decide⟩ : Bt 2 2) (⟨show _ < 256 by omega⟩ : Bt 8 ((i : Nat) : Int)) (by decide)) ?_
      walk_at "rx"
      intro a2 np_a2
      have nb_a2 := BX41.fresh np_a2
      have S_a2 := Same.up (H := Ka1) (o := .tup [.int (mx + 6 - 2 * (i : Nat)), .int (my + (1 + d5))]) np_a2
      have h_a2 : upd Ka1 a2 (.tup [.int (mx + 6 - 2 * (i : Nat)), .int (my + (1 + d5))]) a2 = some (.tup [.int (mx + 6 - 2 * (i : Nat)), .int (my + (1 + d5))]) := upd_same
      generalize upd Ka1 a2 (.tup [.int (mx + 6 - 2 * (i : Nat)), .int (my + (1 + d5))]) = Ka2 at S_a2 h_a2 ⊢
      have GA := GA.trans (Go.of S_a2)
      have h_mi := S_a2 _ _ h_mi
      have LP := LP.same S_a2
      have BX41 := BX41.same S_a2
      have h_a1 := S_a2 _ _ h_a1
      clear S_a2 np_a2
      walk_at "rx"
      intro l2 np_l2
      have nb_l2 := BX41.fresh np_l2
      have S_l2 := Same.up (H := Ka2) (o := .lst [.ref a1, .ref a2]) np_l2
      have h_l2 : upd Ka2 l2 (.lst [.ref a1, .ref a2]) l2 = some (.lst [.ref a1, .ref a2]) := upd_same
      generalize upd Ka2 l2 (.lst [.ref a1, .ref a2]) = Kl2 at S_l2 h_l2 ⊢
      have GA := GA.trans (Go.of S_l2)
      have h_mi := S_l2 _ _ h_mi
      have LP := LP.same S_l2
      have BX41 := BX41.same S_l2
      have h_a1 := S_l2 _ _ h_a1
      have h_a2 := S_l2 _ _ h_a2
      clear S_l2 np_l2
      walk_at "rx"
      obtain ⟨vs, hl, PV⟩ := LP
      have hl : Kl2 l = some (.lst vs) := hl
      have vl := PV.len
      refine q_cat hl h_l2 (by simp only [List.length_cons, List.length_nil]; omega) fun f1 np_f1 => ?_
      have z_f1 := GA.before np_f1 (BX41.fresh np_f1)
      have nb_f1 := BX41.fresh np_f1
      have S_f1 := Same.up (H := Kl2) (o := .lst (vs ++ [.ref a1, .ref a2])) np_f1
      have h_f1 : upd Kl2 f1 (.lst (vs ++ [.ref a1, .ref a2])) f1 = some (.lst (vs ++ [.ref a1, .ref a2])) := upd_same
      generalize upd Kl2 f1 (.lst (vs ++ [.ref a1, .ref a2])) = Kf1 at S_f1 h_f1 ⊢
      have GA := GA.trans (Go.of S_f1)
      have h_mi := S_f1 _ _ h_mi
      have BX41 := BX41.same S_f1
      have h_a1 := S_f1 _ _ h_a1
      have h_a2 := S_f1 _ _ h_a2
      have h_l2 := S_f1 _ _ h_l2
      have LP : Li K false PZ Kf1 f1 (ps ++ ([(mx + 8 - 2 * (i : Nat), my + (1 + d5)), (mx + 6 - 2 * (i : Nat), my + (1 + d5))] : List PtZ)) := ⟨_, h_f1, (PV.im (Same.im S_f1)).app ((Pz.one ⟨a1, rfl, h_a1⟩).snoc ⟨a2, rfl, h_a2⟩)⟩
      walk_at "rx"
      have k1 := m1.lt
      have k2 := m2.lt
      exact ⟨f1, _, _, _, _, _, _, _, _, rfl, GA, BX41.mono (by omega), h_mi, LP, nb_f1, z_f1, by rw [List.length_append, pl]; simp only [List.length_cons, List.length_nil]; omega, pm.two ⟨show (mx + 8 - 2 * (i : Nat)).natAbs < 1024 by omega⟩ ⟨show (my + (1 + d5)).natAbs < 1024 by omega⟩ ⟨show (mx + 6 - 2 * (i : Nat)).natAbs < 1024 by omega⟩ ⟨show (my + (1 + d5)).natAbs < 1024 by omega⟩⟩
    · rintro σ H5 ⟨l, w3, w4, w6, w7, w8, w9, w10, ps, rfl, GA, BX, h_mi, LP, nbl, zl, pl, pm⟩
      have hl3 : (1 + d4).toNat ≤ 3 := by omega
      walk_at "rx"
      exact q l ps H5 GA (BX.mono (by omega)) zl nbl LP.prs (by omega) (by omega) pm

abbrev s__law_comb : Stmt := topS 55
theorem sc__law_comb : FnScope ["_law_box_here", "_law_found", "_law_k", "_law_high"] ["_law_box_here"] (defScope s__law_comb) := ⟨rfl, rfl, rfl, by decide +kernel, rfl, by decide +kernel, by decide +kernel⟩
theorem fn__law_comb {f : Addr} {fd : FuncData} (F : Fun K "_law_comb" "_law_comb" s__law_comb f fd) (B : Bl mg) (c__law_take : Cal P w K mg base 1 "_law_take" ["_law_box_here", "_law_many"] spTake4) : FnOk P w K mg base CX0 2 f fd ["_law_box_here"] (spN 1 (spRoundL 100 100 100)) := by
  refine fnN F sc__law_comb (fun cdv A outer s H vs Q E hr h => ?_)
  obtain ⟨bx, n, rfl, BX, hn, q⟩ := h
  refine ⟨_, (pss_cons (ps_set (i := 1) sc__law_comb.nd rfl (.inl rfl) (pe_lst (pa_cons (pe_tup (pa_cons pe_int (pa_cons pe_int pa_nil))) (pa_cons (pe_tup (pa_cons pe_int (pa_cons pe_int pa_nil))) pa_nil))))
      (pss_cons (ps_for PassesOwn.never (by rfl) (pi_range1 (by rfl) B.b_range (pa_cons pe_int pa_nil)) (pg_name (i := 2) sc__law_comb.nd rfl (.inl rfl)) (pss_cons (ps_set (i := 3) sc__law_comb.nd rfl (.inl rfl) (pe_op op_add pe_int (pe_cal c__law_take hr (by decide) (by rfl) (pa_cons (pv 0) (pa_cons pe_int pa_nil)))))
      (pss_one (ps_set (i := 1) sc__law_comb.nd rfl (.inl rfl) (pe_op op_cat (pv 1) (pe_lst (pa_cons (pe_tup (pa_cons (pe_op op_sub pe_int (pe_op op_mulW pe_int (pv 2))) (pa_cons (pv 3) pa_nil))) (pa_cons (pe_tup (pa_cons (pe_op op_sub pe_int (pe_op op_mulW pe_int (pv 2))) (pa_cons (pv 3) pa_nil))) pa_nil))))))))
      (pss_cons (ps_if (pt_cmpR op_eqI (pe_cal c__law_take hr (by decide) (by rfl) (pa_cons (pv 0) (pa_cons pe_int pa_nil))) pe_int (nomark _)) (pss_one (ps_asg (pe_tup (pa_cons (pe_cal c__law_take hr (by decide) (by rfl) (pa_cons (pv 0) (pa_cons pe_int pa_nil))) (pa_cons (pe_op op_sub pe_int (pe_cal c__law_take hr (by decide) (by rfl) (pa_cons (pv 0) (pa_cons pe_int pa_nil)))) pa_nil))) (pg_sub (pv 1) (pe_op op_sub pe_int (pe_cal c__law_take hr (by decide) (by rfl) (pa_cons (pv 0) (pa_cons pe_int pa_nil)))) set_list))) pss_nil)
      (pss_one (ps_ret (pv 1)))))), ?_⟩
  have GA := Go.refl (bx := bx) H
  walk_at "rx"
  intro t0 np_t0
  have nb_t0 := BX.fresh np_t0
  have S_t0 := Same.up (H := H) (o := .tup [.int 0, .int 0]) np_t0
  have h_t0 : upd H t0 (.tup [.int 0, .int 0]) t0 = some (.tup [.int 0, .int 0]) := upd_same
  generalize upd H t0 (.tup [.int 0, .int 0]) = Kt0 at S_t0 h_t0 ⊢
  have BX := BX.same S_t0
  have GA := GA.trans (Go.of S_t0)
  clear S_t0 np_t0
  walk_at "rx"
  intro t1 np_t1
  have nb_t1 := BX.fresh np_t1
  have S_t1 := Same.up (H := Kt0) (o := .tup [.int 98, .int 0]) np_t1
  have h_t1 : upd Kt0 t1 (.tup [.int 98, .int 0]) t1 = some (.tup [.int 98, .int 0]) := upd_same
  generalize upd Kt0 t1 (.tup [.int 98, .int 0]) = Kt1 at S_t1 h_t1 ⊢
  have BX := BX.same S_t1
  have GA := GA.trans (Go.of S_t1)
  have h_t0 := S_t1 _ _ h_t0
  clear S_t1 np_t1
  walk_at "rx"
  intro f0 np_f0
  have z_f0 := GA.before np_f0 (BX.fresh np_f0)
  have nb_f0 := BX.fresh np_f0
  have S_f0 := Same.up (H := Kt1) (o := .lst [.ref t0, .ref t1]) np_f0
  have h_f0 : upd Kt1 f0 (.lst [.ref t0, .ref t1]) f0 = some (.lst [.ref t0, .ref t1]) := upd_same
  generalize upd Kt1 f0 (.lst [.ref t0, .ref t1]) = Kf0 at S_f0 h_f0 ⊢
  have BX := BX.same S_f0
  have GA := GA.trans (Go.of S_f0)
  have h_t0 := S_f0 _ _ h_t0
  have h_t1 := S_f0 _ _ h_t1
  clear S_f0 np_f0
  have LP : Li K false PZ Kf0 f0 [(0, 0), (98, 0)] := ⟨_, h_f0, (Pz.one ⟨t0, rfl, h_t0⟩).snoc ⟨t1, rfl, h_t1⟩⟩
  walk_at "rx"
  refine ⟨49, rfl, by decide, by decide, ?_⟩
  refine for_range (lo := 0) (n := (49 : Int).toNat) (fun i σ H' => ∃ (l : Addr) (w2 w3 : Option V) (ps : List PtZ), σ = [some (.ref bx), some (.ref l), w2, w3] ∧ Go bx H H' ∧ Box4 H' bx (n + 10 + i) ∧ Li K false PZ H' l ps ∧ l ≠ bx ∧ H l = none ∧ ps.length = 2 + 2 * i ∧ SmZ 10 ps) ⟨f0, _, _, [(0, 0), (98, 0)], rfl, GA, BX.mono (by omega), LP, nb_f0, z_f0, rfl, ?_⟩ ?_ ?_
  · intro z hz
    rcases List.mem_cons.mp hz with e | e
    · subst e; exact ⟨⟨by decide⟩, ⟨by decide⟩⟩
    · rw [List.mem_singleton.mp e]; exact ⟨⟨by decide⟩, ⟨by decide⟩⟩
  · rintro i σ H5 hi ⟨l, w2, w3, ps, rfl, GA, BX, LP, nbl, zl, pl, pm⟩
    have hi3 : i < 49 := hi
    obtain ⟨n0, hn0, hn1⟩ : ∃ n0 : Int, n0 = n + 10 + i ∧ n0 < 990000 := ⟨_, rfl, by omega⟩
    rw [← hn0] at BX
    rw [show ((0 : Int) + ((i : Nat) : Int)) = ((i : Nat) : Int) from Int.zero_add _]
    walk_at "rx"
    refine ⟨bx, 9, _, rfl, BX, by first | decide | omega, (Bt.small (by first | decide | omega) (by first | decide | omega)).mono (by decide), by omega, fun d5 Hd41 d50 d51 gd41 BX41 => ?_⟩
    have GA := GA.trans gd41
    have LP := LP.go nbl BX gd41
    walk_at "rx"
    refine q_I (mulW (⟨by decide⟩ : Bt 2 2) (⟨show _ < 256 by omega⟩ : Bt 8 ((i : Nat) : Int)) (by decide)) ?_
    walk_at "rx"
    intro a1 np_a1
    have nb_a1 := BX41.fresh np_a1
    have S_a1 := Same.up (H := Hd41) (o := .tup [.int (98 - 2 * (i : Nat)), .int (1 + d5)]) np_a1
    have h_a1 : upd Hd41 a1 (.tup [.int (98 - 2 * (i : Nat)), .int (1 + d5)]) a1 = some (.tup [.int (98 - 2 * (i : Nat)), .int (1 + d5)]) := upd_same
    generalize upd Hd41 a1 (.tup [.int (98 - 2 * (i : Nat)), .int (1 + d5)]) = Ka1 at S_a1 h_a1 ⊢
    have GA := GA.trans (Go.of S_a1)
    have LP := LP.same S_a1
    have BX41 := BX41.same S_a1
    clear S_a1 np_a1
    walk_at "rx"
    refine q_I (mulW (⟨by decide⟩ : Bt 2 2) (⟨show _ < 256 by omega⟩ : Bt 8 ((i : Nat) : Int)) (by decide)) ?_
    walk_at "rx"
    intro a2 np_a2
    have nb_a2 := BX41.fresh np_a2
    have S_a2 := Same.up (H := Ka1) (o := .tup [.int (96 - 2 * (i : Nat)), .int (1 + d5)]) np_a2
    have h_a2 : upd Ka1 a2 (.tup [.int (96 - 2 * (i : Nat)), .int (1 + d5)]) a2 = some (.tup [.int (96 - 2 * (i : Nat)), .int (1 + d5)]) := upd_same
    generalize upd Ka1 a2 (.tup [.int (96 - 2 * (i : Nat)), .int (1 + d5)]) = Ka2 at S_a2 h_a2 ⊢
    have GA := GA.trans (Go.of S_a2)
    have LP := LP.same S_a2
    have BX41 := BX41.same S_a2
    have h_a1 := S_a2 _ _ h_a1
    clear S_a2 np_a2
    walk_at "rx"
    intro l2 np_l2
    have nb_l2 := BX41.fresh np_l2
    have S_l2 := Same.up (H := Ka2) (o := .lst [.ref a1, .ref a2]) np_l2
    have h_l2 : upd Ka2 l2 (.lst [.ref a1, .ref a2]) l2 = some (.lst [.ref a1, .ref a2]) := upd_same
    generalize upd Ka2 l2 (.lst [.ref a1, .ref a2]) = Kl2 at S_l2 h_l2 ⊢
    have GA := GA.trans (Go.of S_l2)
    have LP := LP.same S_l2
    have BX41 := BX41.same S_l2
    have h_a1 := S_l2 _ _ h_a1
    have h_a2 := S_l2 _ _ h_a2
    clear S_l2 np_l2
    walk_at "rx"
    obtain ⟨vs, hl, PV⟩ := LP
    have hl : Kl2 l = some (.lst vs) := hl
    have vl := PV.len
    refine q_cat hl h_l2 (by simp only [List.length_cons, List.length_nil]; omega) fun f1 np_f1 => ?_
    have z_f1 := GA.before np_f1 (BX41.fresh np_f1)
    have nb_f1 := BX41.fresh np_f1
    have S_f1 := Same.up (H := Kl2) (o := .lst (vs ++ [.ref a1, .ref a2])) np_f1
    have h_f1 : upd Kl2 f1 (.lst (vs ++ [.ref a1, .ref a2])) f1 = some (.lst (vs ++ [.ref a1, .ref a2])) := upd_same
    generalize upd Kl2 f1 (.lst (vs ++ [.ref a1, .ref a2])) = Kf1 at S_f1 h_f1 ⊢
    have GA := GA.trans (Go.of S_f1)
    have BX41 := BX41.same S_f1
    have h_a1 := S_f1 _ _ h_a1
    have h_a2 := S_f1 _ _ h_a2
    have h_l2 := S_f1 _ _ h_l2
    have LP : Li K false PZ Kf1 f1 (ps ++ ([(98 - 2 * (i : Nat), 1 + d5), (96 - 2 * (i : Nat), 1 + d5)] : List PtZ)) := ⟨_, h_f1, (PV.im (Same.im S_f1)).app ((Pz.one ⟨a1, rfl, h_a1⟩).snoc ⟨a2, rfl, h_a2⟩)⟩
    walk_at "rx"
    exact ⟨f1, _, _, _, rfl, GA, BX41.mono (by omega), LP, nb_f1, z_f1, by rw [List.length_append, pl]; simp only [List.length_cons, List.length_nil]; omega, pm.two ⟨show (98 - 2 * (i : Nat) : Int).natAbs < 1024 by omega⟩ ⟨show (1 + d5).natAbs < 1024 by omega⟩ ⟨show (96 - 2 * (i : Nat) : Int).natAbs < 1024 by omega⟩ ⟨show (1 + d5).natAbs < 1024 by omega⟩⟩
  · rintro σ H5 ⟨l, w2, w3, ps, rfl, GA, BX, LP, nbl, zl, pl, pm⟩
    have pl : ps.length = 100 := pl
    have BX : Box4 H5 bx (n + 60) := BX.mono (by show n + 10 + 49 ≤ n + 60; omega)
    walk_at "rx"
    refine ⟨bx, 2, _, rfl, BX, by first | decide | omega, (Bt.small (by first | decide | omega) (by first | decide | omega)).mono (by decide), by omega, fun d6 Hd61 d60 d61 gd61 BX61 => ?_⟩
    have GA := GA.trans gd61
    have LP := LP.go nbl BX gd61
    walk_at "rx"
    refine q_dec (fun e => ?_) (fun e => ?_)
    · walk_at "rx"
      refine ⟨bx, 98, _, rfl, BX61, by first | decide | omega, (Bt.small (by first | decide | omega) (by first | decide | omega)).mono (by decide), by omega, fun d7 Hd62 d70 d71 gd62 BX62 => ?_⟩
      have GA := GA.trans gd62
      have LP := LP.go nbl BX61 gd62
      walk_at "rx"
      refine ⟨bx, 2, _, rfl, BX62, by first | decide | omega, (Bt.small (by first | decide | omega) (by first | decide | omega)).mono (by decide), by omega, fun d8 Hd63 d80 d81 gd63 BX63 => ?_⟩
      have GA := GA.trans gd63
      have LP := LP.go nbl BX62 gd63
      walk_at "rx"
      intro tt np_tt
      have nb_tt := BX63.fresh np_tt
      have S_tt := Same.up (H := Hd63) (o := .tup [.int d7, .int (0 - d8)]) np_tt
      have h_tt : upd Hd63 tt (.tup [.int d7, .int (0 - d8)]) tt = some (.tup [.int d7, .int (0 - d8)]) := upd_same
      generalize upd Hd63 tt (.tup [.int d7, .int (0 - d8)]) = Ktt at S_tt h_tt ⊢
      have GA := GA.trans (Go.of S_tt)
      have LP := LP.same S_tt
      have BX63 := BX63.same S_tt
      clear S_tt np_tt
      walk_at "rx"
      refine ⟨bx, 90, _, rfl, BX63, by first | decide | omega, (Bt.small (by first | decide | omega) (by first | decide | omega)).mono (by decide), by omega, fun d9 Hd64 d90 d91 gd64 BX64 => ?_⟩
      have GA := GA.trans gd64
      have LP := LP.go nbl BX63 gd64
      have h_tt := gd64 _ _ h_tt nb_tt
      walk_at "rx"
      obtain ⟨vs, hl, PV⟩ := LP
      have hl : Hd64 l = some (.lst vs) := hl
      have vl := PV.len
      rw [show 99 - d9 = (((99 - d9).toNat : Nat) : Int) by omega]
      refine q_set (j := (99 - d9).toNat) hl (by omega) ?_
      walk_at "rx"
      exact q l _ _ (Go.put GA zl) (Box4.put (BX64.mono (by omega)) nbl) zl nbl (Li.setL (K := K) (p := (d7, 0 - d8)) hl PV ⟨tt, rfl, h_tt⟩ _).prs (by rw [List.length_set]; omega) (by rw [List.length_set]; omega) (pm.set ⟨show d7.natAbs < 1024 by omega⟩ ⟨show (0 - d8).natAbs < 1024 by omega⟩ _)
    · walk_at "rx"
      exact q l ps _ GA (BX61.mono (by omega)) zl nbl LP.prs (by omega) (by omega) pm

abbrev s__law_scene : Stmt := topS 56
theorem sc__law_scene : FnScope ["_law_box_here", "_law_rows", "_law_turn", "_law_pairs", "_law_way", "_law_at", "_law_x", "_law_y", "_law_after", "_law_new", "_law_k"] ["_law_box_here"] (defScope s__law_scene) := ⟨rfl, rfl, rfl, by decide +kernel, rfl, by decide +kernel, by decide +kernel⟩
theorem fn__law_scene {f : Addr} {fd : FuncData} (F : Fun K "_law_scene" "_law_scene" s__law_scene f fd) (B : Bl mg) (c__law_take : Cal P w K mg base 1 "_law_take" ["_law_box_here", "_law_many"] spTake4) (c__law_round : Cal P w K mg base 2 "_law_round" ["_law_box_here"] (spRoundL 1 20 100)) : FnOk P w K mg base CX0 3 f fd ["_law_box_here"] (spN 1 spSceneL) := by
  refine fnN F sc__law_scene (fun cdv A outer s H vs Q E hr h => ?_)
  obtain ⟨bx, n, rfl, BX, hn, q⟩ := h
  refine ⟨_, (pss_cons (ps_set (i := 1) sc__law_scene.nd rfl (.inl rfl) (pe_lst pa_nil))
      (pss_cons (ps_for PassesOwn.never (by rfl) (pi_range1 (by rfl) B.b_range (pa_cons (pe_ix ix_list (pe_lst (pa_cons pe_int (pa_cons pe_int (pa_cons (pe_op op_add pe_int (pe_cal c__law_take hr (by decide) (by rfl) (pa_cons (pv 0) (pa_cons pe_int pa_nil)))) pa_nil)))) (pe_cal c__law_take hr (by decide) (by rfl) (pa_cons (pv 0) (pa_cons pe_int pa_nil))) (fun _ _ => rfl)) pa_nil)) (pg_name (i := 2) sc__law_scene.nd rfl (.inl rfl)) (pss_cons (ps_set (i := 3) sc__law_scene.nd rfl (.inl rfl) (pe_cal c__law_round hr (by decide) (by rfl) (pa_cons (pv 0) pa_nil)))
      (pss_cons (ps_if (pt_cmpR op_eqI (pe_cal c__law_take hr (by decide) (by rfl) (pa_cons (pv 0) (pa_cons pe_int pa_nil))) pe_int (nomark _)) (pss_one (ps_setLc (i := 3) (own := [("_law_k", 10)]) (g := gName 10) (tt := tYes) (by rfl) sc__law_scene.nd rfl rfl (sw_true rfl rfl rfl (by decide +kernel)) (pi_range1 (by rfl) B.b_range (pa_cons (pe_op op_add pe_int (pe_cal c__law_take hr (by decide) (by rfl) (pa_cons (pv 0) (pa_cons pe_int pa_nil)))) pa_nil)) (blkOk_by (own := [("_law_k", 10)]) (N := ["_law_box_here", "_law_rows", "_law_turn", "_law_pairs", "_law_way", "_law_at", "_law_x", "_law_y", "_law_after", "_law_new", "_law_k"]) (sc := defScope s__law_scene) (by decide +kernel)) (fun _ _ _ _ _ => pg_name (i := 10) sc__law_scene.nd rfl (.inl rfl)) (fun _ _ _ _ _ => pts_nil) (fun _ _ _ _ _ => (pe_tup (pa_cons (pe_cal c__law_take hr (by decide) (by rfl) (pa_cons (pv 0) (pa_cons pe_int pa_nil))) (pa_cons (pe_cal c__law_take hr (by decide) (by rfl) (pa_cons (pv 0) (pa_cons pe_int pa_nil))) pa_nil)))))) pss_nil)
      (pss_cons (ps_set (i := 4) sc__law_scene.nd rfl (.inl rfl) (pe_cal c__law_take hr (by decide) (by rfl) (pa_cons (pv 0) (pa_cons pe_int pa_nil))))
      (pss_cons (ps_set (i := 5) sc__law_scene.nd rfl (.inl rfl) (pe_cal c__law_take hr (by decide) (by rfl) (pa_cons (pv 0) (pa_cons (pe_callB call_lenK (by rfl) B.b_len (by decide +kernel) (pa_cons (pv 3) pa_nil)) pa_nil))))
      (pss_cons (ps_asg (pe_ix ix_list (pv 3) (pv 5) (fun _ _ => rfl)) (pg_tup (by rfl) (pgs_cons (pg_name (i := 6) sc__law_scene.nd rfl (.inl rfl)) (pgs_cons (pg_name (i := 7) sc__law_scene.nd rfl (.inl rfl)) pgs_nil))))
      (pss_cons (ps_set (i := 8) sc__law_scene.nd rfl (.inl rfl) (pe_ix ix_list (pv 3) (pe_op op_modN (pe_op op_add (pv 5) pe_int) (pe_callB call_lenK (by rfl) B.b_len (by decide +kernel) (pa_cons (pv 3) pa_nil))) (fun _ _ => rfl)))
      (pss_cons (ps_if (pt_cmpR op_lt (pv 4) pe_int (nomark _)) (pss_cons (ps_set (i := 9) sc__law_scene.nd rfl (.inl rfl) (pe_ix ix_list (pe_lst (pa_cons (pe_tup (pa_cons (pv 6) (pa_cons (pv 7) pa_nil))) (pa_cons (pe_tup (pa_cons (pe_op op_sub (pe_op op_mulW pe_int (pv 6)) (pe_ix ix_tup (pv 8) pe_int (fun _ _ => rfl))) (pa_cons (pe_op op_sub (pe_op op_mulW pe_int (pv 7)) (pe_ix ix_tup (pv 8) pe_int (fun _ _ => rfl))) pa_nil))) (pa_cons (pe_ix ix_list (pv 3) (pe_op op_modN (pe_op op_sub (pv 5) pe_int) (pe_callB call_lenK (by rfl) B.b_len (by decide +kernel) (pa_cons (pv 3) pa_nil))) (fun _ _ => rfl)) pa_nil)))) (pv 4) (fun _ _ => rfl)))
      (pss_one (ps_set (i := 3) sc__law_scene.nd rfl (.inl rfl) (pe_op op_cat (pe_op op_cat (pe_slice sl_list (pv 3) po_none (po_some (pe_op op_add (pv 5) pe_int))) (pe_lst (pa_cons (pv 9) pa_nil))) (pe_slice sl_list (pv 3) (po_some (pe_op op_add (pv 5) pe_int)) po_none))))) pss_nil)
      (pss_cons (ps_if (pt_cmpR op_eqI (pv 4) pe_int (nomark _)) (pss_one (ps_asg (pe_tup (pa_cons (pe_ix ix_list (pv 3) (pe_op op_sub (pv 5) pe_int) (fun _ _ => rfl)) (pa_cons (pe_ix ix_list (pv 3) (pv 5) (fun _ _ => rfl)) pa_nil))) (pg_tup (by rfl) (pgs_cons (pg_sub (pv 3) (pv 5) set_list) (pgs_cons (pg_sub (pv 3) (pe_op op_sub (pv 5) pe_int) set_list) pgs_nil))))) pss_nil)
      (pss_cons (ps_if (pt_cmpR op_eqI (pv 4) pe_int (nomark _)) (pss_one (ps_set (i := 3) sc__law_scene.nd rfl (.inl rfl) (pe_revL (pv 3)))) pss_nil)
      (pss_one (ps_expr (pe_bm PySem.F.plainAttrs_list PySem.F.slot_list_append PySem.F.type_list_append mt_append (pv 1) (pa_cons (pe_lc (own := [("_law_x", 6), ("_law_y", 7)]) (g := gTup K 2 (gCons (gName 6) (gCons (gName 7) (gNil)))) (tt := tYes) (by rfl) sc__law_scene.nd (pi_list (pv 3)) (blkOk_by (own := [("_law_x", 6), ("_law_y", 7)]) (N := ["_law_box_here", "_law_rows", "_law_turn", "_law_pairs", "_law_way", "_law_at", "_law_x", "_law_y", "_law_after", "_law_new", "_law_k"]) (sc := defScope s__law_scene) (by decide +kernel)) (fun _ _ _ _ _ => (pg_tupK (K := K) rfl (by rfl) (pgs_cons (pg_name (i := 6) sc__law_scene.nd rfl (.inl rfl)) (pgs_cons (pg_name (i := 7) sc__law_scene.nd rfl (.inl rfl)) pgs_nil)))) (fun _ _ _ _ _ => pts_nil) (fun _ _ _ _ _ => (pe_tup (pa_cons (pe_op op_mulW pe_int (pv 6)) (pa_cons (pe_op op_mulW pe_int (pv 7)) pa_nil))))) pa_nil))))))))))))))
      (pss_one (ps_ret (pv 1))))), ?_⟩
  walk_at "rx"
  intro D nD
  have nbD := BX.fresh nD
  have S0 := Same.up (H := H) (o := .lst []) nD
  have RW0 : RwZ (upd H D (.lst [])) D [] := RwX.nil upd_same
  have GA := Go.of (bx := bx) S0
  have BX0 := BX.same S0
  generalize upd H D (.lst []) = H1 at S0 RW0 GA BX0 ⊢
  walk_at "rx"
  refine ⟨bx, 4, n, rfl, BX0, by decide, (Bt.small (by decide) (by decide)).mono (by decide), by omega, fun d1 H2 d10 d11 g1 BX => ?_⟩
  have RW0 : RwZ H2 D [] := RwZ.go RW0 (fun _ z => nomatch z) nbD (BX0) g1
  have GA := GA.trans g1
  walk_at "rx"
  intro L nL
  have nbL := BX.fresh nL
  have SL := Same.up (o := .lst [.int 1, .int 2, .int (1 + d1)]) nL
  have hL : upd H2 L (.lst [.int 1, .int 2, .int (1 + d1)]) L = some (.lst [.int 1, .int 2, .int (1 + d1)]) := upd_same
  generalize upd H2 L (.lst [.int 1, .int 2, .int (1 + d1)]) = H3 at SL hL ⊢
  have RW0 := RwZ.same RW0 SL
  have GA := GA.trans (Go.of SL)
  have BX := BX.same SL
  walk_at "rx"
  refine ⟨bx, 3, _, rfl, BX, by decide, (Bt.small (by decide) (by decide)).mono (by decide), by omega, fun d2 H4 d20 d21 g2 BX4 => ?_⟩
  have RW0 : RwZ H4 D [] := RwZ.go RW0 (fun _ z => nomatch z) nbD BX g2
  have GA := GA.trans g2
  have hL := g2 _ _ hL nbL
  refine q_Lat hL d20 d21 fun v hv => ?_
  obtain ⟨m, rfl, hm0, hm1⟩ : ∃ m : Int, v = .int m ∧ 1 ≤ m ∧ m ≤ 4 := by
    simp only [List.mem_cons, List.not_mem_nil, or_false] at hv
    rcases hv with e | e | e <;> subst e
    · exact ⟨_, rfl, by decide, by decide⟩
    · exact ⟨_, rfl, by decide, by decide⟩
    · exact ⟨_, rfl, by omega, by omega⟩
  walk_at "rx"
  refine ⟨_, rfl, by omega, by omega, ?_⟩
  refine for_range (lo := 0) (n := m.toNat) (fun i σ H' => ∃ w2 w3 w4 w5 w6 w7 w8 w9 w10 : Option V, σ = [some (.ref bx), some (.ref D), w2, w3, w4, w5, w6, w7, w8, w9, w10] ∧ Go bx H H' ∧ Box4 H' bx (n + 10 + 200 * i) ∧ ∃ pss, RwZ H' D pss ∧ pss.length = i ∧ ∀ ps ∈ pss, 1 ≤ ps.length ∧ ps.length ≤ 100 ∧ SmZ 20 ps) ⟨_, _, _, _, _, _, _, _, _, rfl, GA, BX4.mono (by omega), [], RW0, rfl, fun _ z => nomatch z⟩ ?_ ?_
  · rintro i σ H5 hi ⟨w2, w3, w4, w5, w6, w7, w8, w9, w10, rfl, GH, BX, pss, RW, hl, ok⟩
    have hi4 : i < 4 := by omega
    have B5 := BX
    obtain ⟨n0, hn0, hn1⟩ : ∃ n0 : Int, n0 = n + 10 + 200 * i ∧ n0 < 850000 := ⟨_, rfl, by omega⟩
    rw [← hn0] at BX
    walk_at "rx"
    refine ⟨bx, n0, rfl, BX, by omega, fun l ps H6 GA BX zl nbl PZr l0 l1 sm => ?_⟩
    have LP := PZr.li (K := K)
    walk_at "rs"
    refine q_stc (fun σ' H' => ∃ (l : Addr) (ps : List PtZ) (w10 : Option V), σ' = [some (.ref bx), some (.ref D), some (.int (0 + (i : Nat))), some (.ref l), w4, w5, w6, w7, w8, w9, w10] ∧ Go bx H5 H' ∧ Box4 H' bx (n0 + 130) ∧ Li K false PZ H' l ps ∧ l ≠ bx ∧ H5 l = none ∧ 1 ≤ ps.length ∧ ps.length ≤ 20 ∧ SmZ 10 ps) (fun D' hD' => ?_) ?_
    · walk_at "rx"
      refine ⟨bx, 5, _, rfl, BX, by decide, (Bt.small (by decide) (by decide)).mono (by decide), by omega, fun d3 H7 d30 d31 g3 BX7 => ?_⟩
      have LP := LP.go nbl BX g3
      have GA := GA.trans g3
      walk_at "rx"
      by_cases c3 : d3 = 0
      · rw [if_pos (decide_eq_true c3)]
        walk_at "rx"
        refine ⟨bx, 8, _, rfl, BX7, by decide, (Bt.small (by decide) (by decide)).mono (by decide), by omega, fun d4 H8 d40 d41 g4 BX8 => ?_⟩
        have GA := GA.trans g4
        walk_at "rx"
        refine ⟨_, rfl, by omega, by omega, fun D2 nD2 => ?_⟩
        have nbD2 := BX8.fresh nD2
        refine lc_range (lo := 0) (n := (1 + d4).toNat) (fun i H' => Go bx H8 H' ∧ Box4 H' bx (n0 + 102 + 2 * i) ∧ ∃ ps, Li K false PZ H' D2 ps ∧ ps.length = i ∧ SmZ 10 ps) ⟨Go.of (Same.up nD2), Box4.put (BX8.mono (by omega)) nbD2, [], Li.nil upd_same, rfl, fun _ z => nomatch z⟩ ?_ ?_
        · rintro j H9 hj ⟨G9, B9, qs, LQ, ql, qm⟩
          walk_at "rx"
          refine ⟨rfl, ?_⟩
          walk_at "rx"
          refine ⟨bx, 7, _, rfl, B9, by decide, (Bt.small (by decide) (by decide)).mono (by decide), by omega, fun e1 K1 e10 e11 g5 B10 => ?_⟩
          have LQ := LQ.go nbD2 B9 g5
          walk_at "rx"
          refine ⟨bx, 7, _, rfl, B10, by decide, (Bt.small (by decide) (by decide)).mono (by decide), by omega, fun e2 K2 e20 e21 g6 B11 => ?_⟩
          have LQ := LQ.go nbD2 B10 g6
          walk_at "rx"
          intro T nT
          have ST := Same.up (o := .tup [.int e1, .int e2]) nT
          have hT : upd K2 T (.tup [.int e1, .int e2]) T = some (.tup [.int e1, .int e2]) := upd_same
          generalize upd K2 T (.tup [.int e1, .int e2]) = K3 at ST hT ⊢
          obtain ⟨acc, f1, f2, LQ⟩ := (LQ.same ST).push (x := ((e1, e2) : PtZ)) ⟨T, rfl, hT⟩
          exact ⟨acc, f1, by rw [f2, sizeLine_eq]; omega, Go.put (((G9.trans g5).trans g6).trans (Go.of ST)) nD2, Box4.put ((B11.same ST).mono (by omega)) nbD2, _, LQ, by rw [List.length_append, ql]; rfl, qm.snoc ⟨show e1.natAbs < 1024 by omega⟩ ⟨show e2.natAbs < 1024 by omega⟩⟩
        · rintro H9 ⟨G9, B9, qs, LQ, ql, qm⟩
          exact hD' _ _ ⟨D2, qs, _, rfl, GA.trans G9, B9.mono (by omega), LQ, nbD2, GA.before nD2 nbD2, by omega, by omega, qm⟩
      · rw [if_neg (fun z => c3 (of_decide_eq_true z))]
        walk_at "rx"
        exact hD' _ _ ⟨l, ps, _, rfl, GA, BX7.mono (by omega), LP, nbl, zl, l0, l1, sm⟩
    clear LP GA BX
    rintro _ K0 ⟨l, ps, w10, rfl, GA, BX, LP, nbl, zl, l0, l1, sm⟩
    walk_at "rx"
    refine ⟨bx, 9, _, rfl, BX, by decide, (Bt.small (by decide) (by decide)).mono (by decide), by omega, fun wy H6 wy0 wy1 g BX6 => ?_⟩
    have LP := LP.go nbl BX g
    have GA := GA.trans g
    walk_at "rx"
    obtain ⟨vs, hls, PV⟩ := id LP
    have hls : H6 l = some (.lst vs) := hls
    have vl := PV.len
    refine q_lenL (SqL.of hls) ?_
    walk_at "rx"
    refine ⟨bx, (vs.length : Int), _, rfl, BX6, by omega, (Bt.small (by omega) (by omega)).mono (by decide), by omega, fun at_ H7 at0 at1 g BX7 => ?_⟩
    have LP := LP.go nbl BX6 g
    have GA := GA.trans g
    obtain ⟨j, rfl⟩ := Int.eq_ofNat_of_zero_le at0
    have j1 : j < ps.length := by omega
    clear PV vl
    obtain ⟨vs, hls, PV⟩ := id LP
    have hls : H7 l = some (.lst vs) := hls
    have vl := PV.len
    obtain ⟨v1, hv1, p1t, rfl, hp1⟩ := PV.at_ j1
    walk_at "rx"
    refine q_ixL (j := j) (SqL.of hls) hv1 ?_
    walk_at "rx"
    refine q_lenL (SqL.of hls) ?_
    walk_at "rx"
    refine q_I (by omega) ?_
    rw [mod_at (show 0 < vs.length by omega)]
    have hm : (j + 1) % vs.length < ps.length := by rw [← vl]; exact Nat.mod_lt _ (by omega)
    obtain ⟨v2, hv2, p2t, rfl, hp2⟩ := PV.at_ hm
    refine q_ixL (SqL.of hls) hv2 ?_
    have sX := sm _ (List.getElem_mem j1)
    have sY := sm _ (List.getElem_mem hm)
    generalize ps[j] = X at hp1 sX ⊢
    generalize ps[(j + 1) % vs.length] = Y at hp2 sY ⊢
    walk_at "rs"
    refine q_stc (fun σ' H' => ∃ (l : Addr) (ps : List PtZ) (w9 : Option V), σ' = [some (.ref bx), some (.ref D), some (.int (0 + (i : Nat))), some (.ref l), some (.int wy), some (.int (j : Nat)), some (.int X.1), some (.int X.2), some (.ref p2t), w9, w10] ∧ Go bx H5 H' ∧ Box4 H' bx (n0 + 140) ∧ Li K false PZ H' l ps ∧ l ≠ bx ∧ H5 l = none ∧ j < ps.length ∧ ps.length ≤ 21 ∧ SmZ 14 ps) (fun D' hD' => ?_) ?_
    · walk_at "rx"
      refine q_dec (fun c => ?_) (fun c => ?_)
      · walk_at "rx"
        intro T1 n_T1
        have z_T1 := GA.before n_T1 (BX7.fresh n_T1)
        have nb_T1 := BX7.fresh n_T1
        have S_T1 := Same.up (H := H7) (o := .tup [.int X.1, .int X.2]) n_T1
        have h_T1 : upd H7 T1 (.tup [.int X.1, .int X.2]) T1 = some (.tup [.int X.1, .int X.2]) := upd_same
        generalize upd H7 T1 (.tup [.int X.1, .int X.2]) = K1 at S_T1 h_T1 ⊢
        have hls := S_T1 _ _ hls
        have hp2 := S_T1 _ _ hp2
        have GA := GA.trans (Go.of S_T1)
        have BX7 := BX7.same S_T1
        walk_at "rx"
        refine q_I (mulW (⟨by decide⟩ : Bt 2 2) (sX.1.mono (by decide : 10 ≤ 60)) (by decide)) ?_
        walk_at "rx"
        refine q_I (mulW (⟨by decide⟩ : Bt 2 2) (sX.2.mono (by decide : 10 ≤ 60)) (by decide)) ?_
        walk_at "rx"
        intro T2 n_T2
        have z_T2 := GA.before n_T2 (BX7.fresh n_T2)
        have nb_T2 := BX7.fresh n_T2
        have S_T2 := Same.up (H := K1) (o := .tup [.int (2 * X.1 - Y.1), .int (2 * X.2 - Y.2)]) n_T2
        have h_T2 : upd K1 T2 (.tup [.int (2 * X.1 - Y.1), .int (2 * X.2 - Y.2)]) T2 = some (.tup [.int (2 * X.1 - Y.1), .int (2 * X.2 - Y.2)]) := upd_same
        generalize upd K1 T2 (.tup [.int (2 * X.1 - Y.1), .int (2 * X.2 - Y.2)]) = K2 at S_T2 h_T2 ⊢
        have hls := S_T2 _ _ hls
        have hp2 := S_T2 _ _ hp2
        have h_T1 := S_T2 _ _ h_T1
        have GA := GA.trans (Go.of S_T2)
        have BX7 := BX7.same S_T2
        walk_at "rx"
        refine q_lenL (SqL.of hls) ?_
        walk_at "rx"
        refine q_I (by omega) ?_
        have k0 := fmod_lo ((j : Int) - 2) (show (0 : Int) < (vs.length : Int) by omega)
        have k1 := fmod_hi ((j : Int) - 2) (show (0 : Int) < (vs.length : Int) by omega)
        generalize ((j : Int) - 2).fmod (vs.length : Int) = kk at k0 k1 ⊢
        obtain ⟨k, rfl⟩ := Int.eq_ofNat_of_zero_le k0
        obtain ⟨v3, hv3, p3t, rfl, hp3⟩ := PV.at_ (show k < ps.length by omega)
        have sZ := sm _ (List.getElem_mem (show k < ps.length by omega))
        generalize ps[k] = Z at hp3 sZ
        refine q_ixL (SqL.of hls) hv3 ?_
        walk_at "rx"
        have hp3 := (S_T1.trans S_T2) _ _ hp3
        intro L n_L
        have z_L := GA.before n_L (BX7.fresh n_L)
        have nb_L := BX7.fresh n_L
        have S_L := Same.up (H := K2) (o := .lst [.ref T1, .ref T2, .ref p3t]) n_L
        have h_L : upd K2 L (.lst [.ref T1, .ref T2, .ref p3t]) L = some (.lst [.ref T1, .ref T2, .ref p3t]) := upd_same
        generalize upd K2 L (.lst [.ref T1, .ref T2, .ref p3t]) = K3 at S_L h_L ⊢
        have hls := S_L _ _ hls
        have hp2 := S_L _ _ hp2
        have h_T1 := S_L _ _ h_T1
        have h_T2 := S_L _ _ h_T2
        have hp3 := S_L _ _ hp3
        have GA := GA.trans (Go.of S_L)
        have BX7 := BX7.same S_L
        walk_at "rx"
        refine q_Lat h_L wy0 (by show wy < 3; omega) fun v hv => ?_
        obtain ⟨W, hW, sW⟩ : ∃ W : PtZ, PZ K3 v W ∧ (Bt 14 W.1 ∧ Bt 14 W.2) := by
          simp only [List.mem_cons, List.not_mem_nil, or_false] at hv
          rcases hv with e | e | e <;> subst e
          · exact ⟨X, ⟨T1, rfl, h_T1⟩, sX.1.mono (by decide), sX.2.mono (by decide)⟩
          · exact ⟨(2 * X.1 - Y.1, 2 * X.2 - Y.2), ⟨T2, rfl, h_T2⟩, ⟨by have := sX.1.lt; have := sY.1.lt; show (2 * X.1 - Y.1).natAbs < 16384; omega⟩, ⟨by have := sX.2.lt; have := sY.2.lt; show (2 * X.2 - Y.2).natAbs < 16384; omega⟩⟩
          · exact ⟨Z, ⟨p3t, rfl, hp3⟩, sZ.1.mono (by decide), sZ.2.mono (by decide)⟩
        walk_at "rx"
        refine q_slL hls ?_
        rw [show cutV vs none (some ((j : Int) + 1)) = vs.take (j + 1) from cut_take vs (j + 1)]
        intro c1 n_c1
        have z_c1 := GA.before n_c1 (BX7.fresh n_c1)
        have nb_c1 := BX7.fresh n_c1
        have S_c1 := Same.up (H := K3) (o := .lst (vs.take (j + 1))) n_c1
        have h_c1 : upd K3 c1 (.lst (vs.take (j + 1))) c1 = some (.lst (vs.take (j + 1))) := upd_same
        generalize upd K3 c1 (.lst (vs.take (j + 1))) = K4 at S_c1 h_c1 ⊢
        have hls := S_c1 _ _ hls
        have GA := GA.trans (Go.of S_c1)
        have BX7 := BX7.same S_c1
        walk_at "rx"
        intro c2 n_c2
        have z_c2 := GA.before n_c2 (BX7.fresh n_c2)
        have nb_c2 := BX7.fresh n_c2
        have S_c2 := Same.up (H := K4) (o := .lst [v]) n_c2
        have h_c2 : upd K4 c2 (.lst [v]) c2 = some (.lst [v]) := upd_same
        generalize upd K4 c2 (.lst [v]) = K5 at S_c2 h_c2 ⊢
        have hls := S_c2 _ _ hls
        have h_c1 := S_c2 _ _ h_c1
        have GA := GA.trans (Go.of S_c2)
        have BX7 := BX7.same S_c2
        walk_at "rx"
        refine q_cat h_c1 h_c2 (by rw [List.length_take]; simp only [List.length_cons, List.length_nil]; omega) ?_
        intro c3 n_c3
        have z_c3 := GA.before n_c3 (BX7.fresh n_c3)
        have nb_c3 := BX7.fresh n_c3
        have S_c3 := Same.up (H := K5) (o := .lst (vs.take (j + 1) ++ [v])) n_c3
        have h_c3 : upd K5 c3 (.lst (vs.take (j + 1) ++ [v])) c3 = some (.lst (vs.take (j + 1) ++ [v])) := upd_same
        generalize upd K5 c3 (.lst (vs.take (j + 1) ++ [v])) = K6 at S_c3 h_c3 ⊢
        have hls := S_c3 _ _ hls
        have GA := GA.trans (Go.of S_c3)
        have BX7 := BX7.same S_c3
        walk_at "rx"
        refine q_slL hls ?_
        rw [show cutV vs (some ((j : Int) + 1)) none = vs.drop (j + 1) from cut_drop vs (j + 1)]
        intro c4 n_c4
        have z_c4 := GA.before n_c4 (BX7.fresh n_c4)
        have nb_c4 := BX7.fresh n_c4
        have S_c4 := Same.up (H := K6) (o := .lst (vs.drop (j + 1))) n_c4
        have h_c4 : upd K6 c4 (.lst (vs.drop (j + 1))) c4 = some (.lst (vs.drop (j + 1))) := upd_same
        generalize upd K6 c4 (.lst (vs.drop (j + 1))) = K7 at S_c4 h_c4 ⊢
        have h_c3 := S_c4 _ _ h_c3
        have GA := GA.trans (Go.of S_c4)
        have BX7 := BX7.same S_c4
        walk_at "rx"
        refine q_cat h_c3 h_c4 (by rw [List.length_append, List.length_take, List.length_drop]; simp only [List.length_cons, List.length_nil]; omega) ?_
        intro f_ n_f_
        have z_f := GA.before n_f_ (BX7.fresh n_f_)
        have nb_f := BX7.fresh n_f_
        have S_f := Same.up (H := K7) (o := .lst (vs.take (j + 1) ++ [v] ++ vs.drop (j + 1))) n_f_
        have h_f : upd K7 f_ (.lst (vs.take (j + 1) ++ [v] ++ vs.drop (j + 1))) f_ = some (.lst (vs.take (j + 1) ++ [v] ++ vs.drop (j + 1))) := upd_same
        generalize upd K7 f_ (.lst (vs.take (j + 1) ++ [v] ++ vs.drop (j + 1))) = K8 at S_f h_f ⊢
        have GA := GA.trans (Go.of S_f)
        have BX7 := BX7.same S_f
        walk_at "rx"
        have SS := ((((S_c1.trans S_c2).trans S_c3).trans S_c4).trans S_f)
        have SP := ((S_T1.trans S_T2).trans S_L).trans SS
        exact hD' _ _ ⟨f_, ps.take (j + 1) ++ [W] ++ ps.drop (j + 1), _, rfl, GA, BX7.mono (by omega), ⟨_, h_f, (((PV.im (Same.im SP)).take (j + 1)).app (.one (ImR.im hW (Same.im SS)))).app ((PV.im (Same.im SP)).drop (j + 1))⟩, nb_f, z_f, by simp only [List.length_append, List.length_take, List.length_drop, List.length_cons, List.length_nil]; omega, by simp only [List.length_append, List.length_take, List.length_drop, List.length_cons, List.length_nil]; omega, (((sm.mono (by decide)).take _).app (.one sW.1 sW.2)).app ((sm.mono (by decide)).drop _)⟩
      · walk_at "rx"
        exact hD' _ _ ⟨l, ps, _, rfl, GA, BX7.mono (by omega), LP, nbl, zl, j1, by omega, sm.mono (by decide)⟩
    rintro _ K0 ⟨l, ps, w9, rfl, GA, BX, LP, nbl, zl, j1, l1, sm⟩
    walk_at "rs"
    refine q_stc (fun σ' H' => ∃ (l : Addr) (ps : List PtZ), σ' = [some (.ref bx), some (.ref D), some (.int (0 + (i : Nat))), some (.ref l), some (.int wy), some (.int (j : Nat)), some (.int X.1), some (.int X.2), some (.ref p2t), w9, w10] ∧ Go bx H5 H' ∧ Box4 H' bx (n0 + 140) ∧ Li K false PZ H' l ps ∧ l ≠ bx ∧ H5 l = none ∧ 1 ≤ ps.length ∧ ps.length ≤ 21 ∧ SmZ 14 ps) (fun D' hD' => ?_) ?_
    · walk_at "rx"
      refine q_dec (fun c => ?_) (fun c => ?_)
      · obtain ⟨vs, hls, PV⟩ := id LP
        have hls : K0 l = some (.lst vs) := hls
        have vl := PV.len
        have jm : (j + ps.length - 1) % ps.length < ps.length := Nat.mod_lt _ (by omega)
        obtain ⟨va, hva, ta, rfl, hta⟩ := PV.at_ jm
        obtain ⟨vb, hvb, tb', rfl, htb⟩ := PV.at_ j1
        have sA := sm _ (List.getElem_mem jm)
        have sB := sm _ (List.getElem_mem j1)
        generalize ps[(j + ps.length - 1) % ps.length] = A' at hta sA
        generalize ps[j] = B' at htb sB
        walk_at "rx"
        refine q_ixP (SqL.of hls) (by omega) (by rw [vl]; exact hva) ?_
        walk_at "rx"
        refine q_ixL (SqL.of hls) hvb ?_
        walk_at "rx"
        intro T1 n_T1
        have z_T1 := GA.before n_T1 (BX.fresh n_T1)
        have nb_T1 := BX.fresh n_T1
        have S_T1 := Same.up (H := K0) (o := .tup [.ref ta, .ref tb']) n_T1
        have h_T1 : upd K0 T1 (.tup [.ref ta, .ref tb']) T1 = some (.tup [.ref ta, .ref tb']) := upd_same
        generalize upd K0 T1 (.tup [.ref ta, .ref tb']) = K1 at S_T1 h_T1 ⊢
        have hls := S_T1 _ _ hls
        have GA := GA.trans (Go.of S_T1)
        have BX := BX.same S_T1
        walk_at "rx"
        refine q_set (j := j) hls (by omega) ?_
        have h2 : (upd K1 l (.lst (vs.set j (.ref ta)))) l = some (.lst (vs.set j (.ref ta))) := upd_same
        have P2 : Pz (PZ (upd K1 l (.lst (vs.set j (.ref ta))))) (vs.set j (.ref ta)) (ps.set j A') := ((PV.im (Same.im S_T1)).set ⟨ta, rfl, S_T1 _ _ hta⟩ j).im (Im.lst hls)
        have g2 : PZ (upd K1 l (.lst (vs.set j (.ref ta)))) (.ref tb') B' := ImR.im (⟨tb', rfl, S_T1 _ _ htb⟩ : PZ K1 (.ref tb') B') (Im.lst hls)
        walk_at "rx"
        refine q_setP h2 (by rw [List.length_set]; omega) ?_
        walk_at "rx"
        exact hD' _ _ ⟨l, _, rfl, Go.put (Go.put GA zl) zl, Box4.put (Box4.put BX nbl) nbl, Li.setL (K := K) h2 P2 g2 _, nbl, zl, by rw [List.length_set, List.length_set]; omega, by rw [List.length_set, List.length_set]; omega, (sm.set sA.1 sA.2 _).set sB.1 sB.2 _⟩
      · walk_at "rx"
        exact hD' _ _ ⟨l, ps, rfl, GA, BX, LP, nbl, zl, by omega, l1, sm⟩
    clear LP GA BX j1 sm
    rintro _ K0 ⟨l, ps, rfl, GA, BX, LP, nbl, zl, l0, l1, sm⟩
    walk_at "rs"
    refine q_stc (fun σ' H' => ∃ (l : Addr) (ps : List PtZ), σ' = [some (.ref bx), some (.ref D), some (.int (0 + (i : Nat))), some (.ref l), some (.int wy), some (.int (j : Nat)), some (.int X.1), some (.int X.2), some (.ref p2t), w9, w10] ∧ Go bx H5 H' ∧ Box4 H' bx (n0 + 140) ∧ Li K false PZ H' l ps ∧ l ≠ bx ∧ H5 l = none ∧ 1 ≤ ps.length ∧ ps.length ≤ 21 ∧ SmZ 14 ps) (fun D' hD' => ?_) ?_
    · walk_at "rx"
      refine q_dec (fun c => ?_) (fun c => ?_)
      · obtain ⟨vs, hls, PV⟩ := id LP
        have hls : K0 l = some (.lst vs) := hls
        walk_at "rx"
        refine ⟨l, vs, rfl, SqL.of hls, ?_⟩
        intro T1 n_T1
        have z_T1 := GA.before n_T1 (BX.fresh n_T1)
        have nb_T1 := BX.fresh n_T1
        have S_T1 := Same.up (H := K0) (o := .lst vs.reverse) n_T1
        have h_T1 : upd K0 T1 (.lst vs.reverse) T1 = some (.lst vs.reverse) := upd_same
        generalize upd K0 T1 (.lst vs.reverse) = K1 at S_T1 h_T1 ⊢
        have GA := GA.trans (Go.of S_T1)
        have BX := BX.same S_T1
        walk_at "rx"
        exact hD' _ _ ⟨T1, _, rfl, GA, BX, ⟨_, h_T1, (PV.im (Same.im S_T1)).rev⟩, nb_T1, z_T1, by rw [List.length_reverse]; exact l0, by rw [List.length_reverse]; exact l1, sm.rev⟩
      · walk_at "rx"
        exact hD' _ _ ⟨l, ps, rfl, GA, BX, LP, nbl, zl, l0, l1, sm⟩
    clear LP GA BX sm
    rintro _ K0 ⟨l, ps, rfl, GA, BX, LP, nbl, zl, l0, l1, sm⟩
    have RW := RwZ.go RW (fun ps h => (ok ps h).1) nbD B5 GA
    obtain ⟨vs, hls, PV⟩ := id LP
    have hls : K0 l = some (.lst vs) := hls
    have vl := PV.len
    obtain ⟨cs0, hc0, _, _⟩ := RW.ex
    walk_at "rx"
    refine ⟨l, rfl, ⟨_, SqL.of hls⟩, fun D2 nD2 => ?_⟩
    refine lc_list (xs := vs) (fun i H' => Same K0 H' ∧ ∃ qs, Li K false PZ H' D2 qs ∧ qs.length = i ∧ SmZ 20 qs) ⟨Same.up nD2, [], Li.nil upd_same, rfl, fun _ z => nomatch z⟩ (fun j H' _ ⟨z, _⟩ => SqL.of (z _ _ hls)) ?_ ?_
    · rintro k x H9 hx ⟨S9, qs, LQ, ql, qm⟩
      obtain ⟨pt, hpt, PX⟩ := PV.of hx
      obtain ⟨s1, s2⟩ := sm pt (List.mem_of_getElem? hpt)
      have hk : k < 21 := by have := (List.getElem?_eq_some_iff.mp hpt).1; omega
      obtain ⟨t, rfl, ht⟩ := (ImR.im PX (Same.im S9) : PZ H9 x pt)
      walk_at "rx"
      refine ⟨rfl, ?_⟩
      walk_at "rx"
      refine q_I (mulW (⟨by decide⟩ : Bt 2 2) (s1.mono (by decide : 14 ≤ 60)) (by decide)) ?_
      walk_at "rx"
      refine q_I (mulW (⟨by decide⟩ : Bt 2 2) (s2.mono (by decide : 14 ≤ 60)) (by decide)) ?_
      walk_at "rx"
      intro T nT
      have ST := Same.up (o := .tup [.int (2 * pt.1), .int (2 * pt.2)]) nT
      have hT : upd H9 T (.tup [.int (2 * pt.1), .int (2 * pt.2)]) T = some (.tup [.int (2 * pt.1), .int (2 * pt.2)]) := upd_same
      generalize upd H9 T (.tup [.int (2 * pt.1), .int (2 * pt.2)]) = H10 at ST hT ⊢
      obtain ⟨acc, f1, f2, LQ⟩ := (LQ.same ST).push (x := ((2 * pt.1, 2 * pt.2) : PtZ)) ⟨T, rfl, hT⟩
      exact ⟨acc, f1, by rw [f2, sizeLine_eq]; omega, Same.put (S9.trans ST) nD2, _, LQ, by rw [List.length_append, ql]; rfl, qm.snoc (((⟨by decide⟩ : Bt 2 2).mul s1).mono (by decide)) (((⟨by decide⟩ : Bt 2 2).mul s2).mono (by decide))⟩
    rintro H9 ⟨S9, qs, LQ, ql, qm⟩
    have RW := RwZ.same RW S9
    obtain ⟨cs, hc, h2, h3⟩ := RW.ex
    have rD : D2 ≠ D := fun z => by rw [z, hc0] at nD2; cases nD2
    walk_at "rx"
    refine q_apd hc (by rw [List.length_map]; omega) ?_
    walk_at "rx"
    refine ⟨_, _, _, _, _, _, _, _, _, rfl, Go.put (GH.trans (GA.trans (Go.of S9))) nD, Box4.put ((BX.same S9).mono (by omega)) nbD, pss ++ [qs], RwX.snoc (fun c ps' n z => PrsZ.upd z n hc) h2 h3 rD LQ.prs, by rw [List.length_append, hl]; rfl, fun z hz => ?_⟩
    rcases List.mem_append.mp hz with e | e
    · exact ok z e
    · rw [List.mem_singleton.mp e]
      exact ⟨by omega, by omega, qm⟩
  · rintro σ H5 ⟨w2, w3, w4, w5, w6, w7, w8, w9, w10, rfl, GH, BX, pss, RW, hl, ok⟩
    walk_at "rx"
    exact q D pss H5 GH (BX.mono (by omega)) nbD RW ⟨by omega, by omega, fun ps h => ⟨(ok ps h).1, (ok ps h).2.1, (ok ps h).2.2.mono (by decide)⟩⟩ fun ps h => (ok ps h).2.2

abbrev s_law : Stmt := topS 57
theorem sc_law : FnScope ["_law_script", "_law_ahead", "_law_k", "_law_box_here", "_law_base", "_law_rows", "_law_handed", "_law_due_here", "_law_stood", "_law_by", "_law_grow", "_law_others", "_law_pairs", "_law_x", "_law_y"] ["_law_script"] (defScope s_law) := ⟨rfl, rfl, rfl, by decide +kernel, rfl, by decide +kernel, by decide +kernel⟩
theorem fn_law {f : Addr} {fd : FuncData} (F : Fun K "law" "law" s_law f fd) (B : Bl mg) (c__law_told : Cal P w K mg base 2 "_law_told" ["_law_pairs", "_law_base"] spTold24) (c__law_take : Cal P w K mg base 1 "_law_take" ["_law_box_here", "_law_many"] spTake4) (c_first_crossing : Cal P w K mg base 11 "first_crossing" ["parts"] (spCross K)) (c__law_due : Cal P w K mg base 3 "_law_due" ["_law_rows"] spDueL) (c__law_comb : Cal P w K mg base 2 "_law_comb" ["_law_box_here"] (spRoundL 100 100 100)) (c__law_scene : Cal P w K mg base 3 "_law_scene" ["_law_box_here"] spSceneL) (c__law_box : Cal P w K mg base 1 "_law_box" ["_law_cell_here"] spBox4) (c__law_cell : Cal P w K mg base 1 "_law_cell" ["_law_script", "_law_k"] (spCell K)) (ck_first_crossing_0_parts : CalK P w K mg base 11 "first_crossing" ["parts"] (spCross K) 0 ["parts"] [] [0]) : FnG P w K mg base 12 f fd ["_law_script"] (spN 1 (spLaw K)) := by
  refine fnG F sc_law (fun cdv A outer s H vs Q E hgd hr h => ?_)
  obtain ⟨a0, ns, rfl, hS, hlen, q⟩ := h
  refine ⟨_, (pss_cons (ps_set (i := 1) sc_law.nd rfl (.inl rfl) (pe_lst pa_nil))
      (pss_cons (ps_for PassesOwn.never (by rfl) (pi_range1 (by rfl) B.b_range (pa_cons (pe_callB (call_maxK rfl) (by rfl) B.b_max (by decide +kernel) (pa_cons pe_int (pa_cons (pe_callB (call_minK rfl) (by rfl) B.b_min (by decide +kernel) (pa_cons pe_int (pa_cons (pe_callB call_lenK (by rfl) B.b_len (by decide +kernel) (pa_cons (pv 0) pa_nil)) pa_nil))) pa_nil))) pa_nil)) (pg_name (i := 2) sc_law.nd rfl (.inl rfl)) (pss_cons (ps_set (i := 3) sc_law.nd rfl (.inl rfl) (pe_cal c__law_box hr (by decide) (by rfl) (pa_cons (pe_cal c__law_cell hr (by decide) (by rfl) (pa_cons (pv 0) (pa_cons (pv 2) pa_nil))) pa_nil)))
      (pss_cons (ps_set (i := 4) sc_law.nd rfl (.inr rfl) (pe_ix ix_list (pe_lst (pa_cons pe_int (pa_cons pe_int (pa_cons pe_int (pa_cons pe_int (pa_cons (pe_op op_add pe_int (pe_cal c__law_take hr (by decide) (by rfl) (pa_cons (pv 3) (pa_cons pe_int pa_nil)))) pa_nil)))))) (pe_cal c__law_take hr (by decide) (by rfl) (pa_cons (pv 3) (pa_cons pe_int pa_nil))) (fun _ _ => rfl)))
      (pss_cons (ps_set (i := 5) sc_law.nd rfl (.inl rfl) (pe_cal c__law_scene hr (by decide) (by rfl) (pa_cons (pv 3) pa_nil)))
      (pss_cons (ps_if (PW.pt (pw_and (pt_cmpR op_eqI (pv 2) pe_int (nomark _)) (pw_and1 (pt_cmpR op_eqI (pe_cal c__law_take hr (by decide) (by rfl) (pa_cons (pv 3) (pa_cons pe_int pa_nil))) pe_int (nomark _))))) (pss_cons (ps_set (i := 5) sc_law.nd rfl (.inl rfl) (pe_lst (pa_cons (pe_cal c__law_comb hr (by decide) (by rfl) (pa_cons (pv 3) pa_nil)) pa_nil)))
      (pss_one (ps_if (pt_cmpR op_eqI (pe_cal c__law_take hr (by decide) (by rfl) (pa_cons (pv 3) (pa_cons pe_int pa_nil))) pe_int (nomark _)) (pss_one (ps_set (i := 5) sc_law.nd rfl (.inl rfl) (pe_op op_cat (pv 5) (pe_lst (pa_cons (pe_lc (own := [("_law_x", 13), ("_law_y", 14)]) (g := gTup K 2 (gCons (gName 13) (gCons (gName 14) (gNil)))) (tt := tYes) (by rfl) sc_law.nd (pi_list (pe_cal c__law_comb hr (by decide) (by rfl) (pa_cons (pv 3) pa_nil))) (blkOk_by (own := [("_law_x", 13), ("_law_y", 14)]) (N := ["_law_script", "_law_ahead", "_law_k", "_law_box_here", "_law_base", "_law_rows", "_law_handed", "_law_due_here", "_law_stood", "_law_by", "_law_grow", "_law_others", "_law_pairs", "_law_x", "_law_y"]) (sc := defScope s_law) (by decide +kernel)) (fun _ _ _ _ _ => (pg_tupK (K := K) rfl (by rfl) (pgs_cons (pg_name (i := 13) sc_law.nd rfl (.inl rfl)) (pgs_cons (pg_name (i := 14) sc_law.nd rfl (.inl rfl)) pgs_nil)))) (fun _ _ _ _ _ => pts_nil) (fun _ _ _ _ _ => (pe_tup (pa_cons (pe_op op_add (pv 13) pe_int) (pa_cons (pv 14) pa_nil))))) (pa_cons (pe_lst (pa_cons (pe_tup (pa_cons pe_int (pa_cons (pe_un un_neg pe_int) pa_nil))) (pa_cons (pe_tup (pa_cons pe_int (pa_cons (pe_un un_neg pe_int) pa_nil))) (pa_cons (pe_tup (pa_cons pe_int (pa_cons pe_int pa_nil))) (pa_cons (pe_tup (pa_cons pe_int (pa_cons pe_int pa_nil))) pa_nil))))) pa_nil)))))) pss_nil))) pss_nil)
      (pss_cons (ps_expr (pe_bm PySem.F.plainAttrs_list PySem.F.slot_list_append PySem.F.type_list_append mt_append (pv 1) (pa_cons (pe_tup (pa_cons (pe_lc (own := [("_law_pairs", 12)]) (g := gName 12) (tt := tYes) (by rfl) sc_law.nd (pi_list (pv 5)) (blkOk_by (own := [("_law_pairs", 12)]) (N := ["_law_script", "_law_ahead", "_law_k", "_law_box_here", "_law_base", "_law_rows", "_law_handed", "_law_due_here", "_law_stood", "_law_by", "_law_grow", "_law_others", "_law_pairs", "_law_x", "_law_y"]) (sc := defScope s_law) (by decide +kernel)) (fun _ _ _ _ _ => pg_name (i := 12) sc_law.nd rfl (.inl rfl)) (fun _ _ _ _ _ => pts_nil) (fun _ _ _ _ _ => (pe_cal c__law_told hr (by decide) (by rfl) (pa_cons (pv 12) (pa_cons (pv 4) pa_nil))))) (pa_cons (pe_cal c__law_due hr (by decide) (by rfl) (pa_cons (pv 5) pa_nil)) pa_nil))) pa_nil)))
      (pss_cons (ps_for PassesOwn.never (by rfl) (pi_list (pe_op op_cat (pe_slice sl_list (pv 1) (po_some (pe_un un_neg pe_int)) po_none) (pe_slice sl_list (pv 1) (po_some (pe_un un_neg pe_int)) (po_some (pe_un un_neg pe_int))))) (pg_tup (by rfl) (pgs_cons (pg_name (i := 6) sc_law.nd rfl (.inl rfl)) (pgs_cons (pg_name (i := 7) sc_law.nd rfl (.inl rfl)) pgs_nil))) (pss_cons (ps_set (i := 8) sc_law.nd rfl (.inl rfl) (pe_callB (call_reprX hgd hr.units) (by rfl) B.b_repr (by decide +kernel) (pa_cons (pv 6) pa_nil)))
      (pss_one (ps_if (PW.pt (pw_or (pt_cmpR op_ne (pe_callB (call_reprX hgd hr.units) (by rfl) B.b_repr (by decide +kernel) (pa_cons (pe_cal c_first_crossing hr (by decide) (by rfl) (pa_cons (pv 6) pa_nil)) pa_nil)) (pe_callB (call_reprX hgd hr.units) (by rfl) B.b_repr (by decide +kernel) (pa_cons (pv 7) pa_nil)) (nomark _)) (pw_or1 (pt_cmpR op_ne (pe_callB (call_reprX hgd hr.units) (by rfl) B.b_repr (by decide +kernel) (pa_cons (pv 6) pa_nil)) (pv 8) (nomark _))))) (pss_one (ps_ret pe_bl)) pss_nil))))
      (pss_cons (ps_asg (pe_tup (pa_cons (pe_tup (pa_cons (pe_op op_sub (pe_cal c__law_take hr (by decide) (by rfl) (pa_cons (pv 3) (pa_cons pe_int pa_nil))) pe_int) (pa_cons (pe_op op_sub (pe_cal c__law_take hr (by decide) (by rfl) (pa_cons (pv 3) (pa_cons pe_int pa_nil))) pe_int) pa_nil))) (pa_cons (pe_op op_add pe_int (pe_cal c__law_take hr (by decide) (by rfl) (pa_cons (pv 3) (pa_cons pe_int pa_nil)))) pa_nil))) (pg_tup (by rfl) (pgs_cons (pg_name (i := 9) sc_law.nd rfl (.inr rfl)) (pgs_cons (pg_name (i := 10) sc_law.nd rfl (.inr rfl)) pgs_nil))))
      (pss_cons (ps_setLc (i := 11) (own := [("_law_pairs", 12)]) (g := gName 12) (tt := tYes) (by rfl) sc_law.nd rfl rfl (sw_true rfl rfl rfl (by decide +kernel)) (pi_list (pv 5)) (blkOk_by (own := [("_law_pairs", 12)]) (N := ["_law_script", "_law_ahead", "_law_k", "_law_box_here", "_law_base", "_law_rows", "_law_handed", "_law_due_here", "_law_stood", "_law_by", "_law_grow", "_law_others", "_law_pairs", "_law_x", "_law_y"]) (sc := defScope s_law) (by decide +kernel)) (fun _ _ _ _ _ => pg_name (i := 12) sc_law.nd rfl (.inl rfl)) (fun _ _ _ _ _ => pts_nil) (fun _ _ _ _ _ => (pe_lc (own := [("_law_x", 13), ("_law_y", 14)]) (g := gTup K 2 (gCons (gName 13) (gCons (gName 14) (gNil)))) (tt := tYes) (by rfl) sc_law.nd (pi_listK (K := K) rfl (pv 12)) (blkOk_by (own := [("_law_x", 13), ("_law_y", 14)]) (N := ["_law_script", "_law_ahead", "_law_k", "_law_box_here", "_law_base", "_law_rows", "_law_handed", "_law_due_here", "_law_stood", "_law_by", "_law_grow", "_law_others", "_law_pairs", "_law_x", "_law_y"]) (sc := relS (lcScope (stmtsOf ((defBody s_law).getD 1 (.Pass ⟨0, 0, 0, 0⟩))) 7 (defScope s_law)) (defScope s_law)) (by decide +kernel)) (fun _ _ _ _ _ => (pg_tupK (K := K) rfl (by rfl) (pgs_cons (pg_name (i := 13) sc_law.nd rfl (.inl rfl)) (pgs_cons (pg_name (i := 14) sc_law.nd rfl (.inl rfl)) pgs_nil)))) (fun _ _ _ _ _ => pts_nil) (fun _ _ _ _ _ => (pe_tup (pa_cons (pe_op op_mulW (pe_op op_add (pv 13) (pe_ix (ix_tupK (K := K) rfl) (pv 9) pe_int (fun _ _ => rfl))) (pv 10)) (pa_cons (pe_op op_mulW (pe_op op_add (pv 14) (pe_ix (ix_tupK (K := K) rfl) (pv 9) pe_int (fun _ _ => rfl))) (pv 10)) pa_nil)))))))
      (pss_one (ps_if (pt_cmpR op_ne (pe_callB (call_reprX hgd hr.units) (by rfl) B.b_repr (by decide +kernel) (pa_cons (pe_calK0 ck_first_crossing_0_parts hr (by decide) (by rfl) (pk_cons (pe_callTy call_tupK (by rfl) B.b_tuple (by decide +kernel) (pa_cons (pe_lc (own := [("_law_pairs", 12)]) (g := gName 12) (tt := tYes) (by rfl) sc_law.nd (pi_list (pv 11)) (blkOk_by (own := [("_law_pairs", 12)]) (N := ["_law_script", "_law_ahead", "_law_k", "_law_box_here", "_law_base", "_law_rows", "_law_handed", "_law_due_here", "_law_stood", "_law_by", "_law_grow", "_law_others", "_law_pairs", "_law_x", "_law_y"]) (sc := defScope s_law) (by decide +kernel)) (fun _ _ _ _ _ => pg_name (i := 12) sc_law.nd rfl (.inl rfl)) (fun _ _ _ _ _ => pts_nil) (fun _ _ _ _ _ => (pe_callTy (call_tupKK (K := K) rfl) (by rfl) B.b_tuple (by decide +kernel) (pa_cons (pe_cal c__law_told hr (by decide) (by rfl) (pa_cons (pv 12) (pa_cons (pv 4) pa_nil))) pa_nil)))) pa_nil)) pk_nil)) pa_nil)) (pe_callB (call_reprX hgd hr.units) (by rfl) B.b_repr (by decide +kernel) (pa_cons (pe_ix ix_tup (pe_ix ix_list (pv 1) (pe_un un_neg pe_int) (fun _ _ => rfl)) pe_int (fun _ _ => rfl)) pa_nil)) (nomark _)) (pss_one (ps_ret pe_bl)) pss_nil)))))))))))
      (pss_one (ps_ret pe_bl)))), ?_⟩
  walk_at "rx"
  intro A nA
  have hSH := hS
  have SA := Same.up (H := H) (o := .lst []) nA
  have hA0 : upd H A (.lst []) A = some (.lst []) := upd_same
  generalize upd H A (.lst []) = H0 at SA hA0 ⊢
  have hS := SA.seq hS
  walk_at "rx"
  refine q_lenL hS ?_
  walk_at "rx"
  generalize hN : (if (if ((ns.map V.int).length : Int) < 6 then ((ns.map V.int).length : Int) else 6) > 2 then (if ((ns.map V.int).length : Int) < 6 then ((ns.map V.int).length : Int) else 6) else 2) = N
  have hN0 : 0 ≤ N ∧ N ≤ 6 := by
    subst hN
    split <;> split <;> omega
  refine ⟨N, rfl, by omega, by omega, ?_⟩
  refine for_range (lo := 0) (n := N.toNat) (fun i σ H' => ∃ v2 v3 v4 v5 v6 v7 v8 v9 v10 v11 v12 v13 v14 : Option V, σ = [some (.ref a0), some (.ref A), v2, v3, v4, v5, v6, v7, v8, v9, v10, v11, v12, v13, v14] ∧ Same H H' ∧ SqL K H' a0 (ns.map V.int) ∧ ∃ ts xs, H' A = some (.lst ts) ∧ Pz (AR K A H') ts xs ∧ ts.length = i) ⟨none, none, none, none, none, none, none, none, none, none, none, none, none, rfl, SA, hS, [], [], hA0, .nil, rfl⟩ ?_ (fun σ H' ⟨v2, v3, v4, v5, v6, v7, v8, v9, v10, v11, v12, v13, v14, hσ, hs, _⟩ => by
    subst hσ
    walk_at "rx"
    exact q H')
  rintro i σ H3 hi ⟨v2, v3, v4, v5, v6, v7, v8, v9, v10, v11, v12, v13, v14, rfl, S1, hS, ts, xs, hA, PA, tl⟩
  have hi6 : i < 6 := by omega
  walk_at "rx"
  rw [Int.zero_add]
  refine ⟨a0, ns, i, rfl, hS, by omega, fun x => ?_⟩
  walk_at "rx"
  refine ⟨x, rfl, fun bx H4 S2 nbx BX => ?_⟩
  have GA := Go.of (bx := bx) S2
  obtain ⟨n, hn, BX⟩ : ∃ n : Int, n < 1 ∧ Box4 H4 bx n := ⟨0, by decide, BX⟩
  walk_at "rs"
  refine q_asgs (fun v H' => (∃ t : Int, v = .int t ∧ 1 ≤ t ∧ t ≤ 64) ∧ Go bx H4 H' ∧ Box4 H' bx (n + 7)) (fun R hR => ?_) ?_
  · have GA := Go.refl (bx := bx) H4
    walk_at "rx"
    refine ⟨bx, 40, _, rfl, BX, by first | decide | omega, (Bt.small (by first | decide | omega) (by first | decide | omega)).mono (by decide), by omega, fun d1 Hd1 d10 d11 gd1 BX1 => ?_⟩
    have GA := GA.trans gd1
    walk_at "rx"
    intro p1 np_p1
    have nb_p1 := BX1.fresh np_p1
    have S_p1 := Same.up (H := Hd1) (o := .lst [.int 1, .int 2, .int 3, .int 64, .int (1 + d1)]) np_p1
    have h_p1 : upd Hd1 p1 (.lst [.int 1, .int 2, .int 3, .int 64, .int (1 + d1)]) p1 = some (.lst [.int 1, .int 2, .int 3, .int 64, .int (1 + d1)]) := upd_same
    generalize upd Hd1 p1 (.lst [.int 1, .int 2, .int 3, .int 64, .int (1 + d1)]) = Kp1 at S_p1 h_p1 ⊢
    have GA := GA.trans (Go.of S_p1)
    have BX1 := BX1.same S_p1
    clear S_p1 np_p1
    walk_at "rx"
    refine ⟨bx, 5, _, rfl, BX1, by first | decide | omega, (Bt.small (by first | decide | omega) (by first | decide | omega)).mono (by decide), by omega, fun d2 Hd2 d20 d21 gd2 BX2 => ?_⟩
    have GA := GA.trans gd2
    have h_p1 := gd2 _ _ h_p1 nb_p1
    walk_at "rx"
    refine q_Lat h_p1 d20 d21 fun v hv => ?_
    refine hR _ _ ⟨?_, GA, BX2.mono (by omega)⟩
    simp only [List.mem_cons, List.not_mem_nil, or_false] at hv
    rcases hv with e | e | e | e | e <;> subst e
    · exact ⟨_, rfl, by decide, by decide⟩
    · exact ⟨_, rfl, by decide, by decide⟩
    · exact ⟨_, rfl, by decide, by decide⟩
    · exact ⟨_, rfl, by decide, by decide⟩
    · exact ⟨_, rfl, by omega, by omega⟩
  rintro _ H_a ⟨⟨Bz, rfl, hB0, hB1⟩, g_a, BX_a⟩
  have GA := GA.trans g_a
  have hB : 0 < Bz := by omega
  have bB : Bt 8 Bz := bt_lt (m := 2 ^ 8) (by omega) (by omega) (by decide)
  walk_at "rx"
  refine ⟨bx, _, rfl, BX_a, by omega, fun E pss H6 g6 BX nE RW okP sm => ?_⟩
  have GA := GA.trans g6
  obtain ⟨n1, hn1, BX⟩ : ∃ n1 : Int, n1 < 1100 ∧ Box4 H6 bx n1 := ⟨_, by omega, BX⟩
  walk_at "rs"
  refine q_stc (fun σ' H' => ∃ (E : Addr) (pss : List (List PtZ)), σ' = [some (.ref a0), some (.ref A), some (.int (i : Nat)), some (.ref bx), some (.int Bz), some (.ref E), v6, v7, v8, v9, v10, v11, v12, v13, v14] ∧ Go bx H3 H' ∧ Box4 H' bx (n1 + 400) ∧ E ≠ bx ∧ RwZ H' E pss ∧ OkP pss ∧ ∀ ps ∈ pss, SmZ 20 ps) (fun D' hD' => ?_) ?_
  · walk_at "rx"
    by_cases c : ((i : Nat) : Int) = 0
    · rw [if_pos (decide_eq_true c)]
      walk_at "rx"
      refine ⟨bx, 12, _, rfl, BX, by decide, (Bt.small (by decide) (by decide)).mono (by decide), by omega, fun d3 H7 d30 d31 g7 BX7 => ?_⟩
      have RW := RwZ.go RW (fun ps h => (okP.all ps h).1) nE BX g7
      have GA := GA.trans g7
      walk_at "rx"
      by_cases c2 : d3 = 0
      · rw [if_pos (decide_eq_true c2)]
        walk_at "rx"
        refine ⟨bx, _, rfl, BX7, by omega, fun r ps H8 g8 BX8 nr nbr PZr l0 l1 sm1 => ?_⟩
        have GA := GA.trans g8
        obtain ⟨o1, ho1⟩ := PZr.some_
        walk_at "rx"
        intro L1 n_L1
        have z_L1 := GA.before n_L1 (BX8.fresh n_L1)
        have nb_L1 := BX8.fresh n_L1
        have S_L1 := Same.up (H := H8) (o := .lst [.ref r]) n_L1
        have h_L1 : upd H8 L1 (.lst [.ref r]) L1 = some (.lst [.ref r]) := upd_same
        generalize upd H8 L1 (.lst [.ref r]) = H8' at S_L1 h_L1 ⊢
        have GA := GA.trans (Go.of S_L1)
        have BX8 := BX8.same S_L1
        have nrL := ne_new ho1 n_L1
        have PZr := PZr.same S_L1
        walk_at "rs"
        have sm2 : SmZ 20 ps := sm1.mono (by decide)
        walk_at "rx"
        refine ⟨bx, 2, _, rfl, BX8, by decide, (Bt.small (by decide) (by decide)).mono (by decide), by omega, fun d4 H9 d40 d41 g9 BX9 => ?_⟩
        have h_L1 := g9 _ _ h_L1 nb_L1
        have PZr := PZr.go nbr BX8 g9
        have GA := GA.trans g9
        walk_at "rx"
        refine q_dec (fun c3 => ?_) (fun c3 => ?_)
        · walk_at "rx"
          refine ⟨bx, _, rfl, BX9, by omega, fun r2 qs0 H10 g10 BX10 nr2 nbr2 PZ2 m0 m1 sm3 => ?_⟩
          have h_L1 := g10 _ _ h_L1 nb_L1
          have PZr := PZr.go nbr BX9 g10
          have GA := GA.trans g10
          obtain ⟨vs2, hr2, PV2⟩ := PZ2.li (K := K)
          have hr2 : H10 r2 = some (.lst vs2) := hr2
          have vl2 := PV2.len
          walk_at "rx"
          refine ⟨r2, rfl, ⟨_, SqL.of hr2⟩, fun D2 nD2 => ?_⟩
          have nbD2 := BX10.fresh nD2
          refine lc_list (xs := vs2) (fun i H' => Same H10 H' ∧ ∃ qs, Li K false PZ H' D2 qs ∧ qs.length = i ∧ SmZ 20 qs) ⟨Same.up nD2, [], Li.nil upd_same, rfl, fun _ z => nomatch z⟩ (fun j H' _ ⟨z, _⟩ => SqL.of (z _ _ hr2)) ?_ ?_
          · rintro k x H11 hx ⟨S11, qs, LQ, ql, qm⟩
            obtain ⟨pt, hpt, PX⟩ := PV2.of hx
            obtain ⟨s1, s2⟩ := sm3 pt (List.mem_of_getElem? hpt)
            have hk : k < 100 := by have := (List.getElem?_eq_some_iff.mp hpt).1; omega
            obtain ⟨t, rfl, ht⟩ := (ImR.im PX (Same.im S11) : PZ H11 x pt)
            walk_at "rx"
            refine ⟨rfl, ?_⟩
            walk_at "rx"
            intro T nT
            have ST := Same.up (o := .tup [.int (pt.1 + 300), .int pt.2]) nT
            have hT : upd H11 T (.tup [.int (pt.1 + 300), .int pt.2]) T = some (.tup [.int (pt.1 + 300), .int pt.2]) := upd_same
            generalize upd H11 T (.tup [.int (pt.1 + 300), .int pt.2]) = H12 at ST hT ⊢
            obtain ⟨acc, f1, f2, LQ⟩ := (LQ.same ST).push (x := ((pt.1 + 300, pt.2) : PtZ)) ⟨T, rfl, hT⟩
            exact ⟨acc, f1, by rw [f2, sizeLine_eq]; omega, Same.put (S11.trans ST) nD2, _, LQ, by rw [List.length_append, ql]; rfl, qm.snoc ((s1.add2 (⟨by decide⟩ : Bt 10 300)).mono (by decide)) (s2.mono (by decide))⟩
          rintro H11 ⟨S11, qs, LQ, ql, qm⟩
          have PZ2 := LQ.prs
          have h_L1 := S11 _ _ h_L1
          have PZr := PZr.same S11
          have GA := GA.trans (Go.of S11)
          have BX10 := BX10.same S11
          walk_at "rx"
          intro T1 n_T1
          have z_T1 := GA.before n_T1 (BX10.fresh n_T1)
          have nb_T1 := BX10.fresh n_T1
          have S_T1 := Same.up (H := H11) (o := .tup [.int 90, .int (-4)]) n_T1
          have h_T1 : upd H11 T1 (.tup [.int 90, .int (-4)]) T1 = some (.tup [.int 90, .int (-4)]) := upd_same
          generalize upd H11 T1 (.tup [.int 90, .int (-4)]) = K1 at S_T1 h_T1 ⊢
          have h_L1 := S_T1 _ _ h_L1
          have PZr := PZr.same S_T1
          have PZ2 := PZ2.same S_T1
          have GA := GA.trans (Go.of S_T1)
          have BX10 := BX10.same S_T1
          walk_at "rx"
          intro T2 n_T2
          have z_T2 := GA.before n_T2 (BX10.fresh n_T2)
          have nb_T2 := BX10.fresh n_T2
          have S_T2 := Same.up (H := K1) (o := .tup [.int 130, .int (-4)]) n_T2
          have h_T2 : upd K1 T2 (.tup [.int 130, .int (-4)]) T2 = some (.tup [.int 130, .int (-4)]) := upd_same
          generalize upd K1 T2 (.tup [.int 130, .int (-4)]) = K2 at S_T2 h_T2 ⊢
          have h_L1 := S_T2 _ _ h_L1
          have h_T1 := S_T2 _ _ h_T1
          have PZr := PZr.same S_T2
          have PZ2 := PZ2.same S_T2
          have GA := GA.trans (Go.of S_T2)
          have BX10 := BX10.same S_T2
          walk_at "rx"
          intro T3 n_T3
          have z_T3 := GA.before n_T3 (BX10.fresh n_T3)
          have nb_T3 := BX10.fresh n_T3
          have S_T3 := Same.up (H := K2) (o := .tup [.int 130, .int 30]) n_T3
          have h_T3 : upd K2 T3 (.tup [.int 130, .int 30]) T3 = some (.tup [.int 130, .int 30]) := upd_same
          generalize upd K2 T3 (.tup [.int 130, .int 30]) = K3 at S_T3 h_T3 ⊢
          have h_L1 := S_T3 _ _ h_L1
          have h_T1 := S_T3 _ _ h_T1
          have h_T2 := S_T3 _ _ h_T2
          have PZr := PZr.same S_T3
          have PZ2 := PZ2.same S_T3
          have GA := GA.trans (Go.of S_T3)
          have BX10 := BX10.same S_T3
          walk_at "rx"
          intro T4 n_T4
          have z_T4 := GA.before n_T4 (BX10.fresh n_T4)
          have nb_T4 := BX10.fresh n_T4
          have S_T4 := Same.up (H := K3) (o := .tup [.int 90, .int 30]) n_T4
          have h_T4 : upd K3 T4 (.tup [.int 90, .int 30]) T4 = some (.tup [.int 90, .int 30]) := upd_same
          generalize upd K3 T4 (.tup [.int 90, .int 30]) = K4 at S_T4 h_T4 ⊢
          have h_L1 := S_T4 _ _ h_L1
          have h_T1 := S_T4 _ _ h_T1
          have h_T2 := S_T4 _ _ h_T2
          have h_T3 := S_T4 _ _ h_T3
          have PZr := PZr.same S_T4
          have PZ2 := PZ2.same S_T4
          have GA := GA.trans (Go.of S_T4)
          have BX10 := BX10.same S_T4
          walk_at "rx"
          intro L4 n_L4
          have z_L4 := GA.before n_L4 (BX10.fresh n_L4)
          have nb_L4 := BX10.fresh n_L4
          have S_L4 := Same.up (H := K4) (o := .lst [.ref T1, .ref T2, .ref T3, .ref T4]) n_L4
          have h_L4 : upd K4 L4 (.lst [.ref T1, .ref T2, .ref T3, .ref T4]) L4 = some (.lst [.ref T1, .ref T2, .ref T3, .ref T4]) := upd_same
          generalize upd K4 L4 (.lst [.ref T1, .ref T2, .ref T3, .ref T4]) = K5 at S_L4 h_L4 ⊢
          have h_L1 := S_L4 _ _ h_L1
          have h_T1 := S_L4 _ _ h_T1
          have h_T2 := S_L4 _ _ h_T2
          have h_T3 := S_L4 _ _ h_T3
          have h_T4 := S_L4 _ _ h_T4
          have PZr := PZr.same S_L4
          have PZ2 := PZ2.same S_L4
          have GA := GA.trans (Go.of S_L4)
          have BX10 := BX10.same S_L4
          have PZ4 : PrsZ K5 L4 sqL := Li.prs (K := K) ⟨_, h_L4, (((Pz.one ⟨T1, rfl, h_T1⟩).snoc ⟨T2, rfl, h_T2⟩).snoc ⟨T3, rfl, h_T3⟩).snoc ⟨T4, rfl, h_T4⟩⟩
          walk_at "rx"
          intro L5 n_L5
          have z_L5 := GA.before n_L5 (BX10.fresh n_L5)
          have nb_L5 := BX10.fresh n_L5
          have S_L5 := Same.up (H := K5) (o := .lst [.ref D2, .ref L4]) n_L5
          have h_L5 : upd K5 L5 (.lst [.ref D2, .ref L4]) L5 = some (.lst [.ref D2, .ref L4]) := upd_same
          generalize upd K5 L5 (.lst [.ref D2, .ref L4]) = K6 at S_L5 h_L5 ⊢
          have h_L1 := S_L5 _ _ h_L1
          have PZr := PZr.same S_L5
          have PZ2 := PZ2.same S_L5
          have GA := GA.trans (Go.of S_L5)
          have BX10 := BX10.same S_L5
          have PZ4 := PZ4.same S_L5
          obtain ⟨o1, ho1⟩ := PZr.some_
          obtain ⟨o2, ho2⟩ := PZ2.some_
          obtain ⟨o4, ho4⟩ := PZ4.some_
          walk_at "rx"
          refine q_cat h_L1 h_L5 (Nat.le_of_ble_eq_true rfl) ?_
          intro L6 n_L6
          have z_L6 := GA.before n_L6 (BX10.fresh n_L6)
          have nb_L6 := BX10.fresh n_L6
          have S_L6 := Same.up (H := K6) (o := .lst [.ref r, .ref D2, .ref L4]) n_L6
          have h_L6 : upd K6 L6 (.lst [.ref r, .ref D2, .ref L4]) L6 = some (.lst [.ref r, .ref D2, .ref L4]) := upd_same
          rw [show upd K6 L6 (.lst ([V.ref r] ++ [V.ref D2, V.ref L4])) = upd K6 L6 (.lst [.ref r, .ref D2, .ref L4]) from rfl]
          generalize upd K6 L6 (.lst [.ref r, .ref D2, .ref L4]) = K7 at S_L6 h_L6 ⊢
          have PZr := PZr.same S_L6
          have PZ2 := PZ2.same S_L6
          have GA := GA.trans (Go.of S_L6)
          have BX10 := BX10.same S_L6
          walk_at "rx"
          exact hD' _ _ ⟨L6, [ps, qs, sqL], rfl, GA, BX10.mono (by omega), nb_L6, rwz3 h_L6 (ne_new ho1 n_L6) (ne_new ho2 n_L6) (ne_new ho4 n_L6) PZr PZ2 (PZ4.same S_L6), okP3 (by omega) (by omega) sm2 (by omega) (by omega) qm (by decide) (by decide) sq_sm, fun z hz => by
            simp only [List.mem_cons, List.not_mem_nil, or_false] at hz
            rcases hz with e | e | e <;> subst e
            · exact sm2
            · exact qm
            · exact sq_sm⟩
        · walk_at "rx"
          exact hD' _ _ ⟨L1, [ps], rfl, GA, BX9.mono (by omega), nb_L1, rwz1 h_L1 nrL PZr, okP1 (by omega) (by omega) sm2, fun z hz => by rw [List.mem_singleton.mp hz]; exact sm2⟩
      · rw [if_neg (fun z => c2 (of_decide_eq_true z))]
        walk_at "rx"
        exact hD' _ _ ⟨E, pss, rfl, GA, BX7.mono (by omega), nE, RW, okP, sm⟩
    · rw [if_neg (fun z => c (of_decide_eq_true z))]
      walk_at "rx"
      exact hD' _ _ ⟨E, pss, rfl, GA, BX.mono (by omega), nE, RW, okP, sm⟩
  clear RW okP sm nE GA BX
  rintro _ K0 ⟨E, pss, rfl, GA, BX, nE, RW, okP, sm⟩
  have S30 := Go.same nbx GA
  have hA' := S30 _ _ hA
  have nAb : A ≠ bx := ne_new' hA nbx
  obtain ⟨cs, hrw, hcl, hcv⟩ := RW.ex
  have l1 := okP.l1
  have nEA : E ≠ A := neA2 hA' (PA.map fun _ _ z => z.same S30) RW okP.l0
  have ncA : ∀ c ps, ps ∈ pss → PrsZ K0 c ps → c ≠ A := fun c ps hp P => neA1 hA' (PA.map fun _ _ z => z.same S30) P (okP.all ps hp).1
  walk_at "rx"
  refine ⟨E, rfl, ⟨_, SqL.of hrw⟩, fun F nF => ?_⟩
  have nFA : F ≠ A := fun z => by rw [z, hA'] at nF; cases nF
  have nFb : F ≠ bx := BX.fresh nF
  refine lc_list (xs := cs.map V.ref) (fun i H' => Same K0 H' ∧ RwX (RA2 K A bx Bz) H' F (pss.take i)) ⟨Same.up nF, RwX.nil upd_same⟩ (fun j H' _ ⟨z, _⟩ => SqL.of (z _ _ hrw)) ?_ ?_
  · rintro k x H7 hx ⟨S7, RP⟩
    rw [List.getElem?_map] at hx
    obtain ⟨c, hc, rfl⟩ := Option.map_eq_some_iff.mp hx
    have hk : k < pss.length := hcl ▸ (List.getElem?_eq_some_iff.mp hc).1
    obtain ⟨c', e, _, PZ⟩ := hcv k pss[k] (List.getElem?_eq_getElem hk)
    rw [hc] at e
    cases e
    obtain ⟨o1, o2, o3⟩ := okP.all _ (List.getElem_mem hk)
    walk_at "rx"
    refine ⟨rfl, ?_⟩
    walk_at "rx"
    refine ⟨c, pss[k], Bz, rfl, PZ.same S7, hB, bB, o2, o3, fun r H8 K' S3 nr PB => ?_⟩
    have rF : r ≠ F := by
      obtain ⟨cs, h1, _⟩ := RP.ex
      exact fun z => by rw [z, h1] at nr; cases nr
    have rA : r ≠ A := fun z => by rw [z, S7 _ _ hA'] at nr; cases nr
    have rb : r ≠ bx := (BX.same S7).fresh nr
    have RP := RwA.same RP S3
    obtain ⟨ds, h1, h2, h3⟩ := RP.ex
    refine ⟨_, h1, ?_, Same.put (S7.trans S3) nF, ?_⟩
    · rw [List.length_map, h2, sizeLine_eq, List.length_take]
      omega
    · rw [List.take_add_one, List.getElem?_eq_getElem hk]
      exact RwX.snoc (fun c ps' n z => ⟨PolB.upd z.1 n h1, z.2⟩) h2 h3 rF ⟨⟨PB.ex⟩, rA, rb⟩
  rintro H7 ⟨S7, RP⟩
  rw [List.length_map, hcl, List.take_length] at RP
  walk_at "rx"
  refine ⟨E, pss, rfl, RwZ.same RW S7, okP, sm, fun w' H8 S8 hw => ?_⟩
  have RP := RwA.same RP S8
  have S08 := S7.trans S8
  have hA8 := S08 _ _ hA'
  have BX := BX.same S08
  have GA := GA.trans (Go.of S08)
  walk_at "rx"
  intro T n_T
  have z_T := GA.before n_T (BX.fresh n_T)
  have nb_T := BX.fresh n_T
  have S_T := Same.up (H := H8) (o := .tup [.ref F, w']) n_T
  have h_T : upd H8 T (.tup [.ref F, w']) T = some (.tup [.ref F, w']) := upd_same
  generalize upd H8 T (.tup [.ref F, w']) = H9 at S_T h_T ⊢
  have hA8 := S_T _ _ hA8
  have GA := GA.trans (Go.of S_T)
  have BX := BX.same S_T
  have RP := RwA.same RP S_T
  have hw := hw.im (Same.im S_T)
  have S09 := S08.trans S_T
  have S39 := S30.trans S09
  obtain ⟨ys, hby⟩ := BX.lst
  walk_at "rx"
  refine q_apd hA8 (by omega) ?_
  have im9 := hid2_im nAb hA8 hby
  have PA9 : Pz (AR K A (hidA bx H9)) (ts ++ [.ref T]) (xs ++ [(Bz, pss)]) := (PA.map fun _ _ z => AR.old z nbx S39).snoc ⟨T, F, w', rfl, im9 _ _ h_T, RwA.pols RP nFA nFb nAb hA8 hby, hw.im im9, hB, bB, okP⟩
  have ARto : ∀ Hx, Go bx (upd H9 A (.lst (ts ++ [.ref T]))) Hx → Pz (AR K A Hx) (ts ++ [.ref T]) (xs ++ [(Bz, pss)]) := fun Hx g => PA9.map fun _ _ z => AR.to z g
  have RW : RwZ (upd H9 A (.lst (ts ++ [.ref T]))) E pss := RwZ.updA (RwZ.same RW S09) nEA hA8 fun c ps hp P => by
    obtain ⟨us, f1, f2, f3⟩ := P.ex
    intro z
    subst z
    refine neA1 hA8 (PA.map fun _ _ z => z.same S39) P (okP.all ps hp).1 rfl
  have BX : Box4 (upd H9 A (.lst (ts ++ [.ref T]))) bx (n1 + 400) := Box4.put BX nAb
  have S0A : Same H (upd H9 A (.lst (ts ++ [.ref T]))) := Same.put (S1.trans S39) nA
  have h_T : upd H9 A (.lst (ts ++ [.ref T])) T = some (.tup [.ref F, w']) := by rw [upd_ne (fun z => by rw [z, hA8] at h_T; cases h_T)]; exact h_T
  have hw : crV (upd H9 A (.lst (ts ++ [.ref T]))) w' (crossIn badL (eds pss)) := hw.im (Im.lst hA8)
  have hA : upd H9 A (.lst (ts ++ [.ref T])) A = some (.lst (ts ++ [.ref T])) := upd_same
  have hS0 : SqL K (upd H9 A (.lst (ts ++ [.ref T]))) a0 (ns.map V.int) := S0A.seq hSH
  have XL : (ts ++ [V.ref T]).length = i + 1 := by rw [List.length_append, tl]; rfl
  have XZ : (ts ++ [V.ref T])[(ts ++ [V.ref T]).length - 1]? = some (.ref T) := by
    rw [List.length_append, List.length_singleton, Nat.add_sub_cancel, List.getElem?_append_right (Nat.le_refl _), Nat.sub_self]
    rfl
  have frH : H bx = none := Same.fr S1 nbx
  generalize upd H9 A (.lst (ts ++ [.ref T])) = H10 at ARto RW BX S0A h_T hw hA hS0 ⊢
  generalize ts ++ [V.ref T] = X at ARto hA XL XZ ⊢
  generalize xs ++ [(Bz, pss)] = Y at ARto
  have GX := Go.refl (bx := bx) H10
  have B10 := BX
  have hA10 := hA
  have nTb : T ≠ bx := B10.ne h_T
  clear GA
  walk_at "rx"
  refine q_slL hA ?_
  intro b1 n_b1
  have nb_b1 := BX.fresh n_b1
  have S_b1 := Same.up (H := H10) (o := .lst (cutV X (some (-2)) none)) n_b1
  have h_b1 : upd H10 b1 (.lst (cutV X (some (-2)) none)) b1 = some (.lst (cutV X (some (-2)) none)) := upd_same
  generalize upd H10 b1 (.lst (cutV X (some (-2)) none)) = K1 at S_b1 h_b1 ⊢
  have hA := S_b1 _ _ hA
  have GX := GX.trans (Go.of S_b1)
  have BX := BX.same S_b1
  walk_at "rx"
  refine q_slL hA ?_
  intro b2 n_b2
  have nb_b2 := BX.fresh n_b2
  have S_b2 := Same.up (H := K1) (o := .lst (cutV X (some (-2)) (some (-1)))) n_b2
  have h_b2 : upd K1 b2 (.lst (cutV X (some (-2)) (some (-1)))) b2 = some (.lst (cutV X (some (-2)) (some (-1)))) := upd_same
  generalize upd K1 b2 (.lst (cutV X (some (-2)) (some (-1)))) = K2 at S_b2 h_b2 ⊢
  have hA := S_b2 _ _ hA
  have h_b1 := S_b2 _ _ h_b1
  have GX := GX.trans (Go.of S_b2)
  have BX := BX.same S_b2
  have cl1 := cutV_len X (some (-2)) none
  have cl2 := cutV_len X (some (-2)) (some (-1))
  refine q_cat h_b1 h_b2 (by omega) ?_
  intro b3 n_b3
  have nb_b3 := BX.fresh n_b3
  have S_b3 := Same.up (H := K2) (o := .lst (cutV X (some (-2)) none ++ cutV X (some (-2)) (some (-1)))) n_b3
  have h_b3 : upd K2 b3 (.lst (cutV X (some (-2)) none ++ cutV X (some (-2)) (some (-1)))) b3 = some (.lst (cutV X (some (-2)) none ++ cutV X (some (-2)) (some (-1)))) := upd_same
  generalize upd K2 b3 (.lst (cutV X (some (-2)) none ++ cutV X (some (-2)) (some (-1)))) = K3 at S_b3 h_b3 ⊢
  have hA := S_b3 _ _ hA
  have GX := GX.trans (Go.of S_b3)
  have BX := BX.same S_b3
  walk_at "rx"
  refine ⟨b3, rfl, ⟨_, SqL.of h_b3⟩, ?_⟩
  refine for_list (xs := cutV X (some (-2)) none ++ cutV X (some (-2)) (some (-1))) (fun j σ H' => ∃ w6 w7 w8 : Option V, σ = [some (.ref a0), some (.ref A), some (.int (i : Nat)), some (.ref bx), some (.int Bz), some (.ref E), w6, w7, w8, v9, v10, v11, v12, v13, v14] ∧ Same K3 H') ⟨_, _, _, rfl, Same.refl _⟩ (fun _ _ _ _ ⟨_, _, _, _, s⟩ => SqL.of (s _ _ h_b3)) ?_ ?_
  · rintro j y σ H11 hy ⟨w6, w7, w8, rfl, S11⟩
    have hm : y ∈ X := by rcases List.mem_append.mp (List.mem_of_getElem? hy) with z | z <;> exact cutV_mem z
    obtain ⟨m, hm1, rfl⟩ := List.getElem_of_mem hm
    obtain ⟨x', _, RX⟩ := (ARto _ (GX.trans (Go.of S11))).of (List.getElem?_eq_getElem hm1)
    obtain ⟨t, Fh, wd, ez, ht, PB, cv, qB, qbB, okx⟩ := RX.open_
    rw [ez]
    walk_at "rx"
    refine .inl ⟨_, dBs x'.1 x'.2, 5, 2804, rfl, PB.dp, gd_dBs qB qbB okx, by decide, by decide, ?_⟩
    walk_at "rx"
    refine ⟨false, false, Fh, x'.1, x'.2, rfl, qB, qbB, PB, okx, fun v H12 S12 hv => ?_⟩
    rw [cross_law qB] at hv
    walk_at "rx"
    refine .inl ⟨v, _, 3, 6, rfl, hv.dp, gd_dCr okx, by decide, by decide, ?_⟩
    walk_at "rx"
    refine .inl ⟨wd, _, 3, 6, rfl, (cv.im (Same.im S12)).dp, gd_dCr okx, by decide, by decide, ?_⟩
    walk_at "rx"
    refine q_neS ?_
    walk_at "rx"
    refine .inl ⟨_, dBs x'.1 x'.2, 5, 2804, rfl, (PB.same S12).dp, gd_dBs qB qbB okx, by decide, by decide, ?_⟩
    walk_at "rx"
    refine q_neS ?_
    walk_at "rx"
    exact ⟨_, _, _, rfl, S11.trans S12⟩
  rintro σ H11 ⟨w6, w7, w8, rfl, S11⟩
  have GX := GX.trans (Go.of S11)
  have S1011 := ((S_b1.trans S_b2).trans S_b3).trans S11
  have RW := RwZ.same RW S1011
  have BX := BX.same S11
  walk_at "rx"
  refine ⟨bx, 41, _, rfl, BX, by decide, (Bt.small (by decide) (by decide)).mono (by decide), by omega, fun d5 K4 d50 d51 g4 BX4 => ?_⟩
  have RW := RwZ.go RW (fun ps h => (okP.all ps h).1) nE BX g4
  have GX := GX.trans g4
  walk_at "rx"
  refine ⟨bx, 41, _, rfl, BX4, by decide, (Bt.small (by decide) (by decide)).mono (by decide), by omega, fun d6 K5 d60 d61 g5 BX5 => ?_⟩
  have RW := RwZ.go RW (fun ps h => (okP.all ps h).1) nE BX4 g5
  have GX := GX.trans g5
  have b1 : Bt 5 (d5 - 20) := ⟨show (d5 - 20).natAbs < 32 by omega⟩
  have b2 : Bt 5 (d6 - 20) := ⟨show (d6 - 20).natAbs < 32 by omega⟩
  walk_at "rx"
  generalize d5 - 20 = e1 at b1 ⊢
  generalize d6 - 20 = e2 at b2 ⊢
  intro P n_P
  have nb_P := BX5.fresh n_P
  have S_P := Same.up (H := K5) (o := .tup [.int e1, .int e2]) n_P
  have h_P : upd K5 P (.tup [.int e1, .int e2]) P = some (.tup [.int e1, .int e2]) := upd_same
  generalize upd K5 P (.tup [.int e1, .int e2]) = K6 at S_P h_P ⊢
  have GX := GX.trans (Go.of S_P)
  have BX5 := BX5.same S_P
  have RW := RwZ.same RW S_P
  walk_at "rx"
  refine ⟨bx, 9, _, rfl, BX5, by decide, (Bt.small (by decide) (by decide)).mono (by decide), by omega, fun gr K7 gr0 gr1 g7 BX7 => ?_⟩
  have RW := RwZ.go RW (fun ps h => (okP.all ps h).1) nE BX5 g7
  have GX := GX.trans g7
  have h_P := g7 _ _ h_P nb_P
  walk_at "rx"
  obtain ⟨g, hg⟩ : ∃ g : Int, 1 + gr = g := ⟨_, rfl⟩
  rw [hg]
  have hg0 : 0 < g := by omega
  have bg : Bt 4 g := bt_lt (m := 2 ^ 4) (by omega) (by omega) (by decide)
  intro Q2 n_Q2
  have nb_Q2 := BX7.fresh n_Q2
  have S_Q2 := Same.up (H := K7) (o := .tup [.ref P, .int g]) n_Q2
  have h_Q2 : upd K7 Q2 (.tup [.ref P, .int g]) Q2 = some (.tup [.ref P, .int g]) := upd_same
  generalize upd K7 Q2 (.tup [.ref P, .int g]) = K8 at S_Q2 h_Q2 ⊢
  have h_P := S_Q2 _ _ h_P
  have GX := GX.trans (Go.of S_Q2)
  have BX7 := BX7.same S_Q2
  have RW := RwZ.same RW S_Q2
  obtain ⟨cs, hrw, hcl, hcv⟩ := RW.ex
  walk_at "rx"
  refine ⟨E, rfl, ⟨_, SqL.of hrw⟩, fun O nO => ?_⟩
  refine lc_list (xs := cs.map V.ref) (fun i H' => Same K8 H' ∧ RwZ H' O ((pss.take i).map fun ps => ps.map (mvg (e1, e2) g))) ⟨Same.up nO, RwX.nil upd_same⟩ (fun j H' _ ⟨z, _⟩ => SqL.of (z _ _ hrw)) ?_ ?_
  · rintro k x H12 hx ⟨S12, RO⟩
    rw [List.getElem?_map] at hx
    obtain ⟨c, hc, rfl⟩ := Option.map_eq_some_iff.mp hx
    have hk : k < pss.length := hcl ▸ (List.getElem?_eq_some_iff.mp hc).1
    obtain ⟨c', e, _, PQ⟩ := hcv k pss[k] (List.getElem?_eq_getElem hk)
    rw [hc] at e
    cases e
    obtain ⟨o1, o2, _⟩ := okP.all _ (List.getElem_mem hk)
    have smk := sm _ (List.getElem_mem hk)
    obtain ⟨us, hu, hul, huv⟩ := (PQ.same S12).ex
    walk_at "rx"
    refine ⟨rfl, ?_⟩
    walk_at "rx"
    refine ⟨c, rfl, ⟨_, SqL.of hu⟩, fun D2 nD2 => ?_⟩
    have rO : D2 ≠ O := by
      obtain ⟨cs, h1, _⟩ := RO.ex
      exact fun z => by rw [z, h1] at nD2; cases nD2
    refine lc_list (xs := us.map V.ref) (fun i H' => Same H12 H' ∧ Li K false PZ H' D2 ((pss[k].take i).map (mvg (e1, e2) g))) ⟨Same.up nD2, Li.nil upd_same⟩ (fun j H' _ ⟨z, _⟩ => SqL.of (z _ _ hu)) ?_ ?_
    · rintro m y H13 hy ⟨S13, LQ⟩
      rw [List.getElem?_map] at hy
      obtain ⟨t, ht, rfl⟩ := Option.map_eq_some_iff.mp hy
      have hm : m < pss[k].length := hul ▸ (List.getElem?_eq_some_iff.mp ht).1
      obtain ⟨t', e, hp⟩ := huv m pss[k][m] (List.getElem?_eq_getElem hm)
      rw [ht] at e
      cases e
      have hp := S13 _ _ hp
      have hP := (S12.trans S13) _ _ h_P
      obtain ⟨s1, s2⟩ := smk _ (List.getElem_mem hm)
      have ll : (List.map (mvg (e1, e2) g) (pss[k].take m)).length ≤ 100 := by rw [List.length_map, List.length_take]; omega
      have tk : pss[k].take (m + 1) = pss[k].take m ++ [pss[k][m]] := take_snoc hm
      rw [tk, List.map_append]
      generalize pss[k][m] = pt at hp s1 s2 ⊢
      walk_at "rx"
      refine ⟨rfl, ?_⟩
      walk_at "rx"
      refine q_I (mulW ((s1.add2 (b1.mono (by decide))).mono (show 21 ≤ 60 by decide)) (bg.mono (show 4 ≤ 60 by decide)) (by decide)) ?_
      walk_at "rx"
      refine q_I (mulW ((s2.add2 (b2.mono (by decide))).mono (show 21 ≤ 60 by decide)) (bg.mono (show 4 ≤ 60 by decide)) (by decide)) ?_
      walk_at "rx"
      intro T2 nT2
      have ST := Same.up (o := .tup [.int ((pt.1 + e1) * g), .int ((pt.2 + e2) * g)]) nT2
      have hT2 : upd H13 T2 (.tup [.int ((pt.1 + e1) * g), .int ((pt.2 + e2) * g)]) T2 = some (.tup [.int ((pt.1 + e1) * g), .int ((pt.2 + e2) * g)]) := upd_same
      generalize upd H13 T2 (.tup [.int ((pt.1 + e1) * g), .int ((pt.2 + e2) * g)]) = H14 at ST hT2 ⊢
      obtain ⟨acc, f1, f2, LQ⟩ := (LQ.same ST).push (x := mvg (e1, e2) g pt) ⟨T2, rfl, hT2⟩
      exact ⟨acc, f1, by rw [f2, sizeLine_eq]; omega, Same.put (S13.trans ST) nD2, LQ⟩
    · rintro H13 ⟨S13, LQ⟩
      rw [List.length_map, hul, List.take_length] at LQ
      have RO := RwZ.same RO S13
      obtain ⟨ds, h1, h2, h3⟩ := RO.ex
      refine ⟨_, h1, ?_, Same.put (S12.trans S13) nO, ?_⟩
      · rw [List.length_map, h2, sizeLine_eq, List.length_map, List.length_take]
        omega
      · rw [List.take_add_one, List.getElem?_eq_getElem hk, List.map_append]
        exact RwX.snoc (fun c ps' n z => PrsZ.upd z n h1) h2 h3 rO LQ.prs
  rintro H12 ⟨S12, RO⟩
  rw [List.length_map, hcl, List.take_length] at RO
  have okO := okP_mvg (b := (e1, e2)) okP sm b1 b2 bg
  have cm := cross_mvg (b := (e1, e2)) hg0 pss
  generalize (pss.map fun ps => ps.map (mvg (e1, e2) g)) = qss at RO okO cm
  obtain ⟨ds, hRO, hdl, hdv⟩ := RO.ex
  have ql1 := okO.l1
  walk_at "rx"
  refine ⟨O, rfl, ⟨_, SqL.of hRO⟩, fun G nG => ?_⟩
  refine lc_list (xs := ds.map V.ref) (fun i H' => Same H12 H' ∧ RwP true K Bz H' G (qss.take i)) ⟨Same.up nG, RwX.nil upd_same⟩ (fun j H' _ ⟨z, _⟩ => SqL.of (z _ _ hRO)) ?_ ?_
  · rintro k x H13 hx ⟨S13, RT⟩
    rw [List.getElem?_map] at hx
    obtain ⟨c, hc, rfl⟩ := Option.map_eq_some_iff.mp hx
    have hk : k < qss.length := hdl ▸ (List.getElem?_eq_some_iff.mp hc).1
    obtain ⟨c', e, _, PZ⟩ := hdv k qss[k] (List.getElem?_eq_getElem hk)
    rw [hc] at e
    cases e
    obtain ⟨o1, o2, o3⟩ := okO.all _ (List.getElem_mem hk)
    walk_at "rx"
    refine ⟨rfl, ?_⟩
    walk_at "rx"
    refine ⟨c, qss[k], Bz, rfl, PZ.same S13, hB, bB, o2, o3, fun r H14 K' S14 nr PB => ?_⟩
    obtain ⟨us, hu, hul, huv⟩ := PB.ex
    have hu : H14 r = some (.lst us) := hu
    walk_at "rx"
    refine ⟨r, us, rfl, .inl ⟨SqL.of hu, fun l nl => ?_⟩⟩
    have RT := RwP.same RT S14
    have lG : l ≠ G := by
      obtain ⟨cs, h1, _⟩ := RT.ex
      exact fun z => by rw [z, h1] at nl; cases nl
    have Sl := Same.up (o := .tup us) nl
    have RT := RwP.same RT Sl
    obtain ⟨es, h1, h2, h3⟩ := RT.ex
    refine ⟨_, h1, ?_, Same.put ((S13.trans S14).trans Sl) nG, ?_⟩
    · rw [List.length_map, h2, sizeLine_eq, List.length_take]
      omega
    · rw [List.take_add_one, List.getElem?_eq_getElem hk]
      exact RwX.snoc (fun c ps' n z => PolB.upd z n h1) h2 h3 lG ⟨us, upd_same, hul, fun j p e => let ⟨v, e1, e2⟩ := huv j p e; ⟨v, e1, e2.same Sl⟩⟩
  rintro H13 ⟨S13, RT⟩
  rw [List.length_map, hdl, List.take_length] at RT
  obtain ⟨es, hRT, hel, hev⟩ := RT.ex
  walk_at "rx"
  refine ⟨G, _, rfl, .inl ⟨SqL.of hRT, fun T2 nT2 => ?_⟩⟩
  have ST2 := Same.up (o := .tup (es.map V.ref)) nT2
  have PT : PolsB true true K (upd H13 T2 (.tup (es.map V.ref))) T2 Bz qss := ⟨es.map V.ref, upd_same, by simp [hel], fun i ps e => let ⟨c, e1, _, e3⟩ := hev i ps e; ⟨c, by rw [List.getElem?_map, e1]; rfl, e3.same ST2⟩⟩
  generalize upd H13 T2 (.tup (es.map V.ref)) = H14 at ST2 PT ⊢
  walk_at "rx"
  refine ⟨true, true, T2, Bz, qss, rfl, hB, bB, PT, okO, fun v H15 S15 hv => ?_⟩
  rw [cross_law hB, cm] at hv
  have GX := GX.trans (Go.of (((S12.trans S13).trans ST2).trans S15))
  have hA15 := GX _ _ hA10 nAb
  have hT15 := GX _ _ h_T nTb
  walk_at "rx"
  refine .inl ⟨v, _, 3, 6, rfl, hv.dp, gd_dCr okP, by decide, by decide, ?_⟩
  walk_at "rx"
  refine q_ixN (SqL.of hA15) (by omega) XZ ?_
  walk_at "rx"
  refine .inl ⟨w', _, 3, 6, rfl, (hw.im (B10.im GX)).dp, gd_dCr okP, by decide, by decide, ?_⟩
  walk_at "rx"
  refine q_neS ?_
  walk_at "rx"
  have SF := Go.same frH ((Go.of (bx := bx) S0A).trans GX)
  exact ⟨_, _, _, _, _, _, _, _, _, _, _, _, _, rfl, SF, SF.seq hSH, X, Y, hA15, ARto _ GX, XL⟩
end
/-! what the top has written -/
theorem all_mk {l : PySem.W.OpenLaw} {w : World} {K : PySem.W.Frag} {h : Heap} {mg : Str → Option Value} {fa : Addr} (X : K.In h) (G : h.Ns mainGlobals mg) (hfa : mg "law" = some (.ref fa))
    {C_Edge : Addr} (aC_Edge : PySem.W.nsIn K mainGlobals "Edge" = some (some (.ref C_Edge))) (pg_Edge : PySem.W.plainGet K C_Edge Str.empty = true) (hd_Edge : PySem.W.hasDictIn K C_Edge = true) (po_Edge : PySem.W.plainOver K C_Edge = true) (sa_Edge : PySem.W.findIn K (.ref C_Edge) "__setattr__" = some (some (.builtin "object.__setattr__"))) (mk_Edge : PySem.W.makesIn K C_Edge = true) (kc_Edge : PySem.W.keepIn K (.ref C_Edge) = true)
    (na_Edge_box : PySem.W.findIn K (.ref C_Edge) "box" = some none)
    (na_Edge_line : PySem.W.findIn K (.ref C_Edge) "line" = some none)
    (na_Edge_whole_end : PySem.W.findIn K (.ref C_Edge) "whole_end" = some none)
    (na_Edge_whole_begin : PySem.W.findIn K (.ref C_Edge) "whole_begin" = some none)
    (na_Edge_end : PySem.W.findIn K (.ref C_Edge) "end" = some none)
    (na_Edge_begin : PySem.W.findIn K (.ref C_Edge) "begin" = some none)
    (na_Edge_follower : PySem.W.findIn K (.ref C_Edge) "follower" = some none)
    (na_Edge_at : PySem.W.findIn K (.ref C_Edge) "at" = some none)
    {f0 : Addr} {od0 an0 : Option Addr} {sl0 : Array (Option Value)} {oc0 dc0 pm0 cd0 ct0 : Value} {kV0 : Value}
    (a0 : PySem.W.nsIn K mainGlobals "is_int" = some (some (.ref f0))) (l0 : K.lookup f0 = some ⟨oc0, od0, .func (PySem.W.fnOf "is_int" "is_int" (defArgs s_is_int) (defBody s_is_int) (defScope s_is_int) .none kV0 dc0 pm0 an0 cd0 ct0), sl0⟩) (c0 : PySem.W.codeIn K cd0 "is_int" = true) (k0 : PySem.W.keepIn K (.ref f0) = true)
    {f1 : Addr} {od1 an1 : Option Addr} {sl1 : Array (Option Value)} {oc1 dc1 pm1 cd1 ct1 : Value} {kV1 : Value}
    (a1 : PySem.W.nsIn K mainGlobals "is_list" = some (some (.ref f1))) (l1 : K.lookup f1 = some ⟨oc1, od1, .func (PySem.W.fnOf "is_list" "is_list" (defArgs s_is_list) (defBody s_is_list) (defScope s_is_list) .none kV1 dc1 pm1 an1 cd1 ct1), sl1⟩) (c1 : PySem.W.codeIn K cd1 "is_list" = true) (k1 : PySem.W.keepIn K (.ref f1) = true)
    {f2 : Addr} {od2 an2 : Option Addr} {sl2 : Array (Option Value)} {oc2 dc2 pm2 cd2 ct2 : Value} {kV2 : Value}
    (a2 : PySem.W.nsIn K mainGlobals "is_number" = some (some (.ref f2))) (l2 : K.lookup f2 = some ⟨oc2, od2, .func (PySem.W.fnOf "is_number" "is_number" (defArgs s_is_number) (defBody s_is_number) (defScope s_is_number) .none kV2 dc2 pm2 an2 cd2 ct2), sl2⟩) (c2 : PySem.W.codeIn K cd2 "is_number" = true) (k2 : PySem.W.keepIn K (.ref f2) = true)
    {f3 : Addr} {od3 an3 : Option Addr} {sl3 : Array (Option Value)} {oc3 dc3 pm3 cd3 ct3 : Value} {kV3 : Value}
    (a3 : PySem.W.nsIn K mainGlobals "need_number" = some (some (.ref f3))) (l3 : K.lookup f3 = some ⟨oc3, od3, .func (PySem.W.fnOf "need_number" "need_number" (defArgs s_need_number) (defBody s_need_number) (defScope s_need_number) .none kV3 dc3 pm3 an3 cd3 ct3), sl3⟩) (c3 : PySem.W.codeIn K cd3 "need_number" = true) (k3 : PySem.W.keepIn K (.ref f3) = true)
    {f4 : Addr} {od4 an4 : Option Addr} {sl4 : Array (Option Value)} {oc4 dc4 pm4 cd4 ct4 : Value} {kV4 : Value}
    (a4 : PySem.W.nsIn K mainGlobals "pair_of" = some (some (.ref f4))) (l4 : K.lookup f4 = some ⟨oc4, od4, .func (PySem.W.fnOf "pair_of" "pair_of" (defArgs s_pair_of) (defBody s_pair_of) (defScope s_pair_of) .none kV4 dc4 pm4 an4 cd4 ct4), sl4⟩) (c4 : PySem.W.codeIn K cd4 "pair_of" = true) (k4 : PySem.W.keepIn K (.ref f4) = true)
    {f5 : Addr} {od5 an5 : Option Addr} {sl5 : Array (Option Value)} {oc5 dc5 pm5 cd5 ct5 : Value} {kV5 : Value}
    (a5 : PySem.W.nsIn K mainGlobals "lowest" = some (some (.ref f5))) (l5 : K.lookup f5 = some ⟨oc5, od5, .func (PySem.W.fnOf "lowest" "lowest" (defArgs s_lowest) (defBody s_lowest) (defScope s_lowest) .none kV5 dc5 pm5 an5 cd5 ct5), sl5⟩) (c5 : PySem.W.codeIn K cd5 "lowest" = true) (k5 : PySem.W.keepIn K (.ref f5) = true)
    {f6 : Addr} {od6 an6 : Option Addr} {sl6 : Array (Option Value)} {oc6 dc6 pm6 cd6 ct6 : Value} {kV6 : Value}
    (a6 : PySem.W.nsIn K mainGlobals "_added" = some (some (.ref f6))) (l6 : K.lookup f6 = some ⟨oc6, od6, .func (PySem.W.fnOf "_added" "_added" (defArgs s__added) (defBody s__added) (defScope s__added) .none kV6 dc6 pm6 an6 cd6 ct6), sl6⟩) (c6 : PySem.W.codeIn K cd6 "_added" = true) (k6 : PySem.W.keepIn K (.ref f6) = true)
    {f7 : Addr} {od7 an7 : Option Addr} {sl7 : Array (Option Value)} {oc7 dc7 pm7 cd7 ct7 : Value} {kV7 : Value}
    (a7 : PySem.W.nsIn K mainGlobals "_negated" = some (some (.ref f7))) (l7 : K.lookup f7 = some ⟨oc7, od7, .func (PySem.W.fnOf "_negated" "_negated" (defArgs s__negated) (defBody s__negated) (defScope s__negated) .none kV7 dc7 pm7 an7 cd7 ct7), sl7⟩) (c7 : PySem.W.codeIn K cd7 "_negated" = true) (k7 : PySem.W.keepIn K (.ref f7) = true)
    {f8 : Addr} {od8 an8 : Option Addr} {sl8 : Array (Option Value)} {oc8 dc8 pm8 cd8 ct8 : Value} {kV8 : Value}
    (a8 : PySem.W.nsIn K mainGlobals "_is_less" = some (some (.ref f8))) (l8 : K.lookup f8 = some ⟨oc8, od8, .func (PySem.W.fnOf "_is_less" "_is_less" (defArgs s__is_less) (defBody s__is_less) (defScope s__is_less) .none kV8 dc8 pm8 an8 cd8 ct8), sl8⟩) (c8 : PySem.W.codeIn K cd8 "_is_less" = true) (k8 : PySem.W.keepIn K (.ref f8) = true)
    {f9 : Addr} {od9 an9 : Option Addr} {sl9 : Array (Option Value)} {oc9 dc9 pm9 cd9 ct9 : Value} {kV9 : Value}
    (a9 : PySem.W.nsIn K mainGlobals "plus" = some (some (.ref f9))) (l9 : K.lookup f9 = some ⟨oc9, od9, .func (PySem.W.fnOf "plus" "plus" (defArgs s_plus) (defBody s_plus) (defScope s_plus) .none kV9 dc9 pm9 an9 cd9 ct9), sl9⟩) (c9 : PySem.W.codeIn K cd9 "plus" = true) (k9 : PySem.W.keepIn K (.ref f9) = true)
    {f10 : Addr} {od10 an10 : Option Addr} {sl10 : Array (Option Value)} {oc10 dc10 pm10 cd10 ct10 : Value} {kV10 : Value}
    (a10 : PySem.W.nsIn K mainGlobals "minus" = some (some (.ref f10))) (l10 : K.lookup f10 = some ⟨oc10, od10, .func (PySem.W.fnOf "minus" "minus" (defArgs s_minus) (defBody s_minus) (defScope s_minus) .none kV10 dc10 pm10 an10 cd10 ct10), sl10⟩) (c10 : PySem.W.codeIn K cd10 "minus" = true) (k10 : PySem.W.keepIn K (.ref f10) = true)
    {f11 : Addr} {od11 an11 : Option Addr} {sl11 : Array (Option Value)} {oc11 dc11 pm11 cd11 ct11 : Value} {kV11 : Value}
    (a11 : PySem.W.nsIn K mainGlobals "times" = some (some (.ref f11))) (l11 : K.lookup f11 = some ⟨oc11, od11, .func (PySem.W.fnOf "times" "times" (defArgs s_times) (defBody s_times) (defScope s_times) .none kV11 dc11 pm11 an11 cd11 ct11), sl11⟩) (c11 : PySem.W.codeIn K cd11 "times" = true) (k11 : PySem.W.keepIn K (.ref f11) = true)
    {f12 : Addr} {od12 an12 : Option Addr} {sl12 : Array (Option Value)} {oc12 dc12 pm12 cd12 ct12 : Value} {kV12 : Value}
    (a12 : PySem.W.nsIn K mainGlobals "sign_of" = some (some (.ref f12))) (l12 : K.lookup f12 = some ⟨oc12, od12, .func (PySem.W.fnOf "sign_of" "sign_of" (defArgs s_sign_of) (defBody s_sign_of) (defScope s_sign_of) .none kV12 dc12 pm12 an12 cd12 ct12), sl12⟩) (c12 : PySem.W.codeIn K cd12 "sign_of" = true) (k12 : PySem.W.keepIn K (.ref f12) = true)
    {f13 : Addr} {od13 an13 : Option Addr} {sl13 : Array (Option Value)} {oc13 dc13 pm13 cd13 ct13 : Value} {kV13 : Value}
    (a13 : PySem.W.nsIn K mainGlobals "less" = some (some (.ref f13))) (l13 : K.lookup f13 = some ⟨oc13, od13, .func (PySem.W.fnOf "less" "less" (defArgs s_less) (defBody s_less) (defScope s_less) .none kV13 dc13 pm13 an13 cd13 ct13), sl13⟩) (c13 : PySem.W.codeIn K cd13 "less" = true) (k13 : PySem.W.keepIn K (.ref f13) = true)
    {f14 : Addr} {od14 an14 : Option Addr} {sl14 : Array (Option Value)} {oc14 dc14 pm14 cd14 ct14 : Value}
    {D14 : Addr}
    (a14 : PySem.W.nsIn K mainGlobals "floor_of" = some (some (.ref f14))) (l14 : K.lookup f14 = some ⟨oc14, od14, .func (PySem.W.fnOf "floor_of" "floor_of" (defArgs s_floor_of) (defBody s_floor_of) (defScope s_floor_of) .none (.ref D14) dc14 pm14 an14 cd14 ct14), sl14⟩) (c14 : PySem.W.codeIn K cd14 "floor_of" = true) (k14 : PySem.W.keepIn K (.ref f14) = true)
    {tq14_step : Tok} (q14_step : PySem.W.nsIn K D14 "step" = some (some (.int 1 tq14_step)))
    {f15 : Addr} {od15 an15 : Option Addr} {sl15 : Array (Option Value)} {oc15 dc15 pm15 cd15 ct15 : Value} {kV15 : Value}
    (a15 : PySem.W.nsIn K mainGlobals "is_place" = some (some (.ref f15))) (l15 : K.lookup f15 = some ⟨oc15, od15, .func (PySem.W.fnOf "is_place" "is_place" (defArgs s_is_place) (defBody s_is_place) (defScope s_is_place) .none kV15 dc15 pm15 an15 cd15 ct15), sl15⟩) (c15 : PySem.W.codeIn K cd15 "is_place" = true) (k15 : PySem.W.keepIn K (.ref f15) = true)
    {f16 : Addr} {od16 an16 : Option Addr} {sl16 : Array (Option Value)} {oc16 dc16 pm16 cd16 ct16 : Value} {kV16 : Value}
    (a16 : PySem.W.nsIn K mainGlobals "need_place" = some (some (.ref f16))) (l16 : K.lookup f16 = some ⟨oc16, od16, .func (PySem.W.fnOf "need_place" "need_place" (defArgs s_need_place) (defBody s_need_place) (defScope s_need_place) .none kV16 dc16 pm16 an16 cd16 ct16), sl16⟩) (c16 : PySem.W.codeIn K cd16 "need_place" = true) (k16 : PySem.W.keepIn K (.ref f16) = true)
    {f17 : Addr} {od17 an17 : Option Addr} {sl17 : Array (Option Value)} {oc17 dc17 pm17 cd17 ct17 : Value} {kV17 : Value}
    (a17 : PySem.W.nsIn K mainGlobals "need_polygons" = some (some (.ref f17))) (l17 : K.lookup f17 = some ⟨oc17, od17, .func (PySem.W.fnOf "need_polygons" "need_polygons" (defArgs s_need_polygons) (defBody s_need_polygons) (defScope s_need_polygons) .none kV17 dc17 pm17 an17 cd17 ct17), sl17⟩) (c17 : PySem.W.codeIn K cd17 "need_polygons" = true) (k17 : PySem.W.keepIn K (.ref f17) = true)
    {f18 : Addr} {od18 an18 : Option Addr} {sl18 : Array (Option Value)} {oc18 dc18 pm18 cd18 ct18 : Value} {kV18 : Value}
    (a18 : PySem.W.nsIn K mainGlobals "_whole_place" = some (some (.ref f18))) (l18 : K.lookup f18 = some ⟨oc18, od18, .func (PySem.W.fnOf "_whole_place" "_whole_place" (defArgs s__whole_place) (defBody s__whole_place) (defScope s__whole_place) .none kV18 dc18 pm18 an18 cd18 ct18), sl18⟩) (c18 : PySem.W.codeIn K cd18 "_whole_place" = true) (k18 : PySem.W.keepIn K (.ref f18) = true)
    {f19 : Addr} {od19 an19 : Option Addr} {sl19 : Array (Option Value)} {oc19 dc19 pm19 cd19 ct19 : Value} {kV19 : Value}
    (a19 : PySem.W.nsIn K mainGlobals "_line" = some (some (.ref f19))) (l19 : K.lookup f19 = some ⟨oc19, od19, .func (PySem.W.fnOf "_line" "_line" (defArgs s__line) (defBody s__line) (defScope s__line) .none kV19 dc19 pm19 an19 cd19 ct19), sl19⟩) (c19 : PySem.W.codeIn K cd19 "_line" = true) (k19 : PySem.W.keepIn K (.ref f19) = true)
    {f20 : Addr} {od20 an20 : Option Addr} {sl20 : Array (Option Value)} {oc20 dc20 pm20 cd20 ct20 : Value} {kV20 : Value}
    (a20 : PySem.W.nsIn K mainGlobals "_box" = some (some (.ref f20))) (l20 : K.lookup f20 = some ⟨oc20, od20, .func (PySem.W.fnOf "_box" "_box" (defArgs s__box) (defBody s__box) (defScope s__box) .none kV20 dc20 pm20 an20 cd20 ct20), sl20⟩) (c20 : PySem.W.codeIn K cd20 "_box" = true) (k20 : PySem.W.keepIn K (.ref f20) = true)
    {f21 : Addr} {od21 an21 : Option Addr} {sl21 : Array (Option Value)} {oc21 dc21 pm21 cd21 ct21 kV21 : Value}
    (a21 : PySem.W.findIn K (.ref C_Edge) "__init__" = some (some (.ref f21))) (i21 : PySem.W.isFn K (.ref f21) = true) (l21 : K.lookup f21 = some ⟨oc21, od21, .func (PySem.W.fnOf "__init__" "Edge.__init__" (defArgs s_Edge___init__) (defBody s_Edge___init__) (defScope s_Edge___init__) .none kV21 dc21 pm21 an21 cd21 ct21), sl21⟩) (c21 : PySem.W.codeIn K cd21 "Edge.__init__" = true) (k21 : PySem.W.keepIn K (.ref f21) = true)
    {f22 : Addr} {od22 an22 : Option Addr} {sl22 : Array (Option Value)} {oc22 dc22 pm22 cd22 ct22 : Value} {kV22 : Value}
    (a22 : PySem.W.nsIn K mainGlobals "edges_of" = some (some (.ref f22))) (l22 : K.lookup f22 = some ⟨oc22, od22, .func (PySem.W.fnOf "edges_of" "edges_of" (defArgs s_edges_of) (defBody s_edges_of) (defScope s_edges_of) .none kV22 dc22 pm22 an22 cd22 ct22), sl22⟩) (c22 : PySem.W.codeIn K cd22 "edges_of" = true) (k22 : PySem.W.keepIn K (.ref f22) = true)
    {f23 : Addr} {od23 an23 : Option Addr} {sl23 : Array (Option Value)} {oc23 dc23 pm23 cd23 ct23 : Value} {kV23 : Value}
    (a23 : PySem.W.nsIn K mainGlobals "_side" = some (some (.ref f23))) (l23 : K.lookup f23 = some ⟨oc23, od23, .func (PySem.W.fnOf "_side" "_side" (defArgs s__side) (defBody s__side) (defScope s__side) .none kV23 dc23 pm23 an23 cd23 ct23), sl23⟩) (c23 : PySem.W.codeIn K cd23 "_side" = true) (k23 : PySem.W.keepIn K (.ref f23) = true)
    {f24 : Addr} {od24 an24 : Option Addr} {sl24 : Array (Option Value)} {oc24 dc24 pm24 cd24 ct24 : Value} {kV24 : Value}
    (a24 : PySem.W.nsIn K mainGlobals "_are_apart" = some (some (.ref f24))) (l24 : K.lookup f24 = some ⟨oc24, od24, .func (PySem.W.fnOf "_are_apart" "_are_apart" (defArgs s__are_apart) (defBody s__are_apart) (defScope s__are_apart) .none kV24 dc24 pm24 an24 cd24 ct24), sl24⟩) (c24 : PySem.W.codeIn K cd24 "_are_apart" = true) (k24 : PySem.W.keepIn K (.ref f24) = true)
    {f25 : Addr} {od25 an25 : Option Addr} {sl25 : Array (Option Value)} {oc25 dc25 pm25 cd25 ct25 : Value} {kV25 : Value}
    (a25 : PySem.W.nsIn K mainGlobals "_meet" = some (some (.ref f25))) (l25 : K.lookup f25 = some ⟨oc25, od25, .func (PySem.W.fnOf "_meet" "_meet" (defArgs s__meet) (defBody s__meet) (defScope s__meet) .none kV25 dc25 pm25 an25 cd25 ct25), sl25⟩) (c25 : PySem.W.codeIn K cd25 "_meet" = true) (k25 : PySem.W.keepIn K (.ref f25) = true)
    {f26 : Addr} {od26 an26 : Option Addr} {sl26 : Array (Option Value)} {oc26 dc26 pm26 cd26 ct26 : Value} {kV26 : Value}
    (a26 : PySem.W.nsIn K mainGlobals "_touch" = some (some (.ref f26))) (l26 : K.lookup f26 = some ⟨oc26, od26, .func (PySem.W.fnOf "_touch" "_touch" (defArgs s__touch) (defBody s__touch) (defScope s__touch) .none kV26 dc26 pm26 an26 cd26 ct26), sl26⟩) (c26 : PySem.W.codeIn K cd26 "_touch" = true) (k26 : PySem.W.keepIn K (.ref f26) = true)
    {f27 : Addr} {od27 an27 : Option Addr} {sl27 : Array (Option Value)} {oc27 dc27 pm27 cd27 ct27 : Value} {kV27 : Value}
    (a27 : PySem.W.nsIn K mainGlobals "_folds_back" = some (some (.ref f27))) (l27 : K.lookup f27 = some ⟨oc27, od27, .func (PySem.W.fnOf "_folds_back" "_folds_back" (defArgs s__folds_back) (defBody s__folds_back) (defScope s__folds_back) .none kV27 dc27 pm27 an27 cd27 ct27), sl27⟩) (c27 : PySem.W.codeIn K cd27 "_folds_back" = true) (k27 : PySem.W.keepIn K (.ref f27) = true)
    {f28 : Addr} {od28 an28 : Option Addr} {sl28 : Array (Option Value)} {oc28 dc28 pm28 cd28 ct28 : Value} {kV28 : Value}
    (a28 : PySem.W.nsIn K mainGlobals "_have_too_much" = some (some (.ref f28))) (l28 : K.lookup f28 = some ⟨oc28, od28, .func (PySem.W.fnOf "_have_too_much" "_have_too_much" (defArgs s__have_too_much) (defBody s__have_too_much) (defScope s__have_too_much) .none kV28 dc28 pm28 an28 cd28 ct28), sl28⟩) (c28 : PySem.W.codeIn K cd28 "_have_too_much" = true) (k28 : PySem.W.keepIn K (.ref f28) = true)
    {f29 : Addr} {od29 an29 : Option Addr} {sl29 : Array (Option Value)} {oc29 dc29 pm29 cd29 ct29 : Value} {kV29 : Value}
    (a29 : PySem.W.nsIn K mainGlobals "_found_crossing" = some (some (.ref f29))) (l29 : K.lookup f29 = some ⟨oc29, od29, .func (PySem.W.fnOf "_found_crossing" "_found_crossing" (defArgs s__found_crossing) (defBody s__found_crossing) (defScope s__found_crossing) .none kV29 dc29 pm29 an29 cd29 ct29), sl29⟩) (c29 : PySem.W.codeIn K cd29 "_found_crossing" = true) (k29 : PySem.W.keepIn K (.ref f29) = true)
    {f30 : Addr} {od30 an30 : Option Addr} {sl30 : Array (Option Value)} {oc30 dc30 pm30 cd30 ct30 : Value} {kV30 : Value}
    (a30 : PySem.W.nsIn K mainGlobals "first_crossing" = some (some (.ref f30))) (l30 : K.lookup f30 = some ⟨oc30, od30, .func (PySem.W.fnOf "first_crossing" "first_crossing" (defArgs s_first_crossing) (defBody s_first_crossing) (defScope s_first_crossing) .none kV30 dc30 pm30 an30 cd30 ct30), sl30⟩) (c30 : PySem.W.codeIn K cd30 "first_crossing" = true) (k30 : PySem.W.keepIn K (.ref f30) = true)
    {f31 : Addr} {od31 an31 : Option Addr} {sl31 : Array (Option Value)} {oc31 dc31 pm31 cd31 ct31 : Value} {kV31 : Value}
    (a31 : PySem.W.nsIn K mainGlobals "_law_cell" = some (some (.ref f31))) (l31 : K.lookup f31 = some ⟨oc31, od31, .func (PySem.W.fnOf "_law_cell" "_law_cell" (defArgs s__law_cell) (defBody s__law_cell) (defScope s__law_cell) .none kV31 dc31 pm31 an31 cd31 ct31), sl31⟩) (c31 : PySem.W.codeIn K cd31 "_law_cell" = true) (k31 : PySem.W.keepIn K (.ref f31) = true)
    {f32 : Addr} {od32 an32 : Option Addr} {sl32 : Array (Option Value)} {oc32 dc32 pm32 cd32 ct32 : Value} {kV32 : Value}
    (a32 : PySem.W.nsIn K mainGlobals "_law_box" = some (some (.ref f32))) (l32 : K.lookup f32 = some ⟨oc32, od32, .func (PySem.W.fnOf "_law_box" "_law_box" (defArgs s__law_box) (defBody s__law_box) (defScope s__law_box) .none kV32 dc32 pm32 an32 cd32 ct32), sl32⟩) (c32 : PySem.W.codeIn K cd32 "_law_box" = true) (k32 : PySem.W.keepIn K (.ref f32) = true)
    {f33 : Addr} {od33 an33 : Option Addr} {sl33 : Array (Option Value)} {oc33 dc33 pm33 cd33 ct33 : Value} {kV33 : Value}
    (a33 : PySem.W.nsIn K mainGlobals "_law_take" = some (some (.ref f33))) (l33 : K.lookup f33 = some ⟨oc33, od33, .func (PySem.W.fnOf "_law_take" "_law_take" (defArgs s__law_take) (defBody s__law_take) (defScope s__law_take) .none kV33 dc33 pm33 an33 cd33 ct33), sl33⟩) (c33 : PySem.W.codeIn K cd33 "_law_take" = true) (k33 : PySem.W.keepIn K (.ref f33) = true)
    {f34 : Addr} {od34 an34 : Option Addr} {sl34 : Array (Option Value)} {oc34 dc34 pm34 cd34 ct34 : Value} {kV34 : Value}
    (a34 : PySem.W.nsIn K mainGlobals "_law_number" = some (some (.ref f34))) (l34 : K.lookup f34 = some ⟨oc34, od34, .func (PySem.W.fnOf "_law_number" "_law_number" (defArgs s__law_number) (defBody s__law_number) (defScope s__law_number) .none kV34 dc34 pm34 an34 cd34 ct34), sl34⟩) (c34 : PySem.W.codeIn K cd34 "_law_number" = true) (k34 : PySem.W.keepIn K (.ref f34) = true)
    {f35 : Addr} {od35 an35 : Option Addr} {sl35 : Array (Option Value)} {oc35 dc35 pm35 cd35 ct35 : Value} {kV35 : Value}
    (a35 : PySem.W.nsIn K mainGlobals "_law_told" = some (some (.ref f35))) (l35 : K.lookup f35 = some ⟨oc35, od35, .func (PySem.W.fnOf "_law_told" "_law_told" (defArgs s__law_told) (defBody s__law_told) (defScope s__law_told) .none kV35 dc35 pm35 an35 cd35 ct35), sl35⟩) (c35 : PySem.W.codeIn K cd35 "_law_told" = true) (k35 : PySem.W.keepIn K (.ref f35) = true)
    {f36 : Addr} {od36 an36 : Option Addr} {sl36 : Array (Option Value)} {oc36 dc36 pm36 cd36 ct36 : Value} {kV36 : Value}
    (a36 : PySem.W.nsIn K mainGlobals "_law_edges" = some (some (.ref f36))) (l36 : K.lookup f36 = some ⟨oc36, od36, .func (PySem.W.fnOf "_law_edges" "_law_edges" (defArgs s__law_edges) (defBody s__law_edges) (defScope s__law_edges) .none kV36 dc36 pm36 an36 cd36 ct36), sl36⟩) (c36 : PySem.W.codeIn K cd36 "_law_edges" = true) (k36 : PySem.W.keepIn K (.ref f36) = true)
    {f37 : Addr} {od37 an37 : Option Addr} {sl37 : Array (Option Value)} {oc37 dc37 pm37 cd37 ct37 : Value} {kV37 : Value}
    (a37 : PySem.W.nsIn K mainGlobals "_law_cross" = some (some (.ref f37))) (l37 : K.lookup f37 = some ⟨oc37, od37, .func (PySem.W.fnOf "_law_cross" "_law_cross" (defArgs s__law_cross) (defBody s__law_cross) (defScope s__law_cross) .none kV37 dc37 pm37 an37 cd37 ct37), sl37⟩) (c37 : PySem.W.codeIn K cd37 "_law_cross" = true) (k37 : PySem.W.keepIn K (.ref f37) = true)
    {f38 : Addr} {od38 an38 : Option Addr} {sl38 : Array (Option Value)} {oc38 dc38 pm38 cd38 ct38 : Value} {kV38 : Value}
    (a38 : PySem.W.nsIn K mainGlobals "_law_along" = some (some (.ref f38))) (l38 : K.lookup f38 = some ⟨oc38, od38, .func (PySem.W.fnOf "_law_along" "_law_along" (defArgs s__law_along) (defBody s__law_along) (defScope s__law_along) .none kV38 dc38 pm38 an38 cd38 ct38), sl38⟩) (c38 : PySem.W.codeIn K cd38 "_law_along" = true) (k38 : PySem.W.keepIn K (.ref f38) = true)
    {f39 : Addr} {od39 an39 : Option Addr} {sl39 : Array (Option Value)} {oc39 dc39 pm39 cd39 ct39 : Value} {kV39 : Value}
    (a39 : PySem.W.nsIn K mainGlobals "_law_shared" = some (some (.ref f39))) (l39 : K.lookup f39 = some ⟨oc39, od39, .func (PySem.W.fnOf "_law_shared" "_law_shared" (defArgs s__law_shared) (defBody s__law_shared) (defScope s__law_shared) .none kV39 dc39 pm39 an39 cd39 ct39), sl39⟩) (c39 : PySem.W.codeIn K cd39 "_law_shared" = true) (k39 : PySem.W.keepIn K (.ref f39) = true)
    {f40 : Addr} {od40 an40 : Option Addr} {sl40 : Array (Option Value)} {oc40 dc40 pm40 cd40 ct40 : Value} {kV40 : Value}
    (a40 : PySem.W.nsIn K mainGlobals "_law_folded" = some (some (.ref f40))) (l40 : K.lookup f40 = some ⟨oc40, od40, .func (PySem.W.fnOf "_law_folded" "_law_folded" (defArgs s__law_folded) (defBody s__law_folded) (defScope s__law_folded) .none kV40 dc40 pm40 an40 cd40 ct40), sl40⟩) (c40 : PySem.W.codeIn K cd40 "_law_folded" = true) (k40 : PySem.W.keepIn K (.ref f40) = true)
    {f41 : Addr} {od41 an41 : Option Addr} {sl41 : Array (Option Value)} {oc41 dc41 pm41 cd41 ct41 : Value} {kV41 : Value}
    (a41 : PySem.W.nsIn K mainGlobals "_law_due" = some (some (.ref f41))) (l41 : K.lookup f41 = some ⟨oc41, od41, .func (PySem.W.fnOf "_law_due" "_law_due" (defArgs s__law_due) (defBody s__law_due) (defScope s__law_due) .none kV41 dc41 pm41 an41 cd41 ct41), sl41⟩) (c41 : PySem.W.codeIn K cd41 "_law_due" = true) (k41 : PySem.W.keepIn K (.ref f41) = true)
    {f42 : Addr} {od42 an42 : Option Addr} {sl42 : Array (Option Value)} {oc42 dc42 pm42 cd42 ct42 : Value} {kV42 : Value}
    (a42 : PySem.W.nsIn K mainGlobals "_law_round" = some (some (.ref f42))) (l42 : K.lookup f42 = some ⟨oc42, od42, .func (PySem.W.fnOf "_law_round" "_law_round" (defArgs s__law_round) (defBody s__law_round) (defScope s__law_round) .none kV42 dc42 pm42 an42 cd42 ct42), sl42⟩) (c42 : PySem.W.codeIn K cd42 "_law_round" = true) (k42 : PySem.W.keepIn K (.ref f42) = true)
    {f43 : Addr} {od43 an43 : Option Addr} {sl43 : Array (Option Value)} {oc43 dc43 pm43 cd43 ct43 : Value} {kV43 : Value}
    (a43 : PySem.W.nsIn K mainGlobals "_law_comb" = some (some (.ref f43))) (l43 : K.lookup f43 = some ⟨oc43, od43, .func (PySem.W.fnOf "_law_comb" "_law_comb" (defArgs s__law_comb) (defBody s__law_comb) (defScope s__law_comb) .none kV43 dc43 pm43 an43 cd43 ct43), sl43⟩) (c43 : PySem.W.codeIn K cd43 "_law_comb" = true) (k43 : PySem.W.keepIn K (.ref f43) = true)
    {f44 : Addr} {od44 an44 : Option Addr} {sl44 : Array (Option Value)} {oc44 dc44 pm44 cd44 ct44 : Value} {kV44 : Value}
    (a44 : PySem.W.nsIn K mainGlobals "_law_scene" = some (some (.ref f44))) (l44 : K.lookup f44 = some ⟨oc44, od44, .func (PySem.W.fnOf "_law_scene" "_law_scene" (defArgs s__law_scene) (defBody s__law_scene) (defScope s__law_scene) .none kV44 dc44 pm44 an44 cd44 ct44), sl44⟩) (c44 : PySem.W.codeIn K cd44 "_law_scene" = true) (k44 : PySem.W.keepIn K (.ref f44) = true)
    {f45 : Addr} {od45 an45 : Option Addr} {sl45 : Array (Option Value)} {oc45 dc45 pm45 cd45 ct45 : Value} {kV45 : Value}
    (a45 : PySem.W.nsIn K mainGlobals "law" = some (some (.ref f45))) (l45 : K.lookup f45 = some ⟨oc45, od45, .func (PySem.W.fnOf "law" "law" (defArgs s_law) (defBody s_law) (defScope s_law) .none kV45 dc45 pm45 an45 cd45 ct45), sl45⟩) (c45 : PySem.W.codeIn K cd45 "law" = true) (k45 : PySem.W.keepIn K (.ref f45) = true)
    (z_isinstance : PySem.W.nsIn K mainGlobals "isinstance" = some none)
    (z_bool : PySem.W.nsIn K mainGlobals "bool" = some none)
    (z_int : PySem.W.nsIn K mainGlobals "int" = some none)
    (z_len : PySem.W.nsIn K mainGlobals "len" = some none)
    (z_tuple : PySem.W.nsIn K mainGlobals "tuple" = some none)
    (z_list : PySem.W.nsIn K mainGlobals "list" = some none)
    (z_gcd : PySem.W.nsIn K mainGlobals "gcd" = some (some (.builtin "math.gcd")))
    (z_all : PySem.W.nsIn K mainGlobals "all" = some none)
    {tz_MOST_PLACES : Tok} (z_MOST_PLACES : PySem.W.nsIn K mainGlobals "MOST_PLACES" = some (some (.int 100 tz_MOST_PLACES)))
    {tz_MOST_POLYGONS : Tok} (z_MOST_POLYGONS : PySem.W.nsIn K mainGlobals "MOST_POLYGONS" = some (some (.int 4 tz_MOST_POLYGONS)))
    (z_lcm : PySem.W.nsIn K mainGlobals "lcm" = some (some (.builtin "math.lcm")))
    (z_max : PySem.W.nsIn K mainGlobals "max" = some none)
    (z_min : PySem.W.nsIn K mainGlobals "min" = some none)
    (z_zip : PySem.W.nsIn K mainGlobals "zip" = some none)
    (z_enumerate : PySem.W.nsIn K mainGlobals "enumerate" = some none)
    (z_abs : PySem.W.nsIn K mainGlobals "abs" = some none)
    (z_sorted : PySem.W.nsIn K mainGlobals "sorted" = some none)
    (z_range : PySem.W.nsIn K mainGlobals "range" = some none)
    (z_repr : PySem.W.nsIn K mainGlobals "repr" = some none)
    : ∃ fd : FuncData, (∀ (s : Shared) (v : Value), BindsTo s fd ⟨[v], []⟩ [("_law_script", v)]) ∧ ∀ base : Heap, K.In base → base.Ns mainGlobals mg → FnG l.prog w K mg base 12 fa fd ["_law_script"] (spN 1 (spLaw K)) := by
  have e := hfa.symm.trans (PySem.W.mg_of X G a45)
  cases e
  refine ⟨PySem.W.fnOf "law" "law" (defArgs s_law) (defBody s_law) (defScope s_law) .none kV45 dc45 pm45 an45 cd45 ct45, fun s v => .of_eq rfl, fun base _ _ => ?_⟩
  have B : Bl mg := ⟨PySem.W.mg_none_of X G z_isinstance, PySem.W.mg_none_of X G z_bool, PySem.W.mg_none_of X G z_int, PySem.W.mg_none_of X G z_len, PySem.W.mg_none_of X G z_tuple, PySem.W.mg_none_of X G z_list, PySem.W.mg_of X G z_gcd, PySem.W.mg_none_of X G z_all, ⟨_, PySem.W.mg_of X G z_MOST_PLACES⟩, ⟨_, PySem.W.mg_of X G z_MOST_POLYGONS⟩, PySem.W.mg_of X G z_lcm, PySem.W.mg_none_of X G z_max, PySem.W.mg_none_of X G z_min, PySem.W.mg_none_of X G z_zip, PySem.W.mg_none_of X G z_enumerate, PySem.W.mg_none_of X G z_abs, PySem.W.mg_none_of X G z_sorted, PySem.W.mg_none_of X G z_range, PySem.W.mg_none_of X G z_repr⟩
  have cl_Edge : Cls K C_Edge := ⟨pg_Edge, hd_Edge, po_Edge, sa_Edge⟩
  have g0 := PySem.W.mg_of X G a0
  have F0 := fun_mk (st := s_is_int) l0 c0 k0
  have g1 := PySem.W.mg_of X G a1
  have F1 := fun_mk (st := s_is_list) l1 c1 k1
  have g2 := PySem.W.mg_of X G a2
  have F2 := fun_mk (st := s_is_number) l2 c2 k2
  have g3 := PySem.W.mg_of X G a3
  have F3 := fun_mk (st := s_need_number) l3 c3 k3
  have g4 := PySem.W.mg_of X G a4
  have F4 := fun_mk (st := s_pair_of) l4 c4 k4
  have g5 := PySem.W.mg_of X G a5
  have F5 := fun_mk (st := s_lowest) l5 c5 k5
  have g6 := PySem.W.mg_of X G a6
  have F6 := fun_mk (st := s__added) l6 c6 k6
  have g7 := PySem.W.mg_of X G a7
  have F7 := fun_mk (st := s__negated) l7 c7 k7
  have g8 := PySem.W.mg_of X G a8
  have F8 := fun_mk (st := s__is_less) l8 c8 k8
  have g9 := PySem.W.mg_of X G a9
  have F9 := fun_mk (st := s_plus) l9 c9 k9
  have g10 := PySem.W.mg_of X G a10
  have F10 := fun_mk (st := s_minus) l10 c10 k10
  have g11 := PySem.W.mg_of X G a11
  have F11 := fun_mk (st := s_times) l11 c11 k11
  have g12 := PySem.W.mg_of X G a12
  have F12 := fun_mk (st := s_sign_of) l12 c12 k12
  have g13 := PySem.W.mg_of X G a13
  have F13 := fun_mk (st := s_less) l13 c13 k13
  have g14 := PySem.W.mg_of X G a14
  have F14 : FunD K "floor_of" "floor_of" (defArgs s_floor_of) (defBody s_floor_of) (defScope s_floor_of) [] [("step", V.int 1)] f14 _ := ⟨⟨_, _, _, _, _, _, _, _, _, _, rfl, l14, c14, .inl ⟨rfl, rfl⟩, .inr ⟨D14, rfl, fun q hq => by
      simp only [List.mem_cons, List.not_mem_nil, or_false] at hq
      subst hq
      exact ⟨_, q14_step, ⟨_, rfl⟩⟩⟩⟩, k14⟩
  have g15 := PySem.W.mg_of X G a15
  have F15 := fun_mk (st := s_is_place) l15 c15 k15
  have g16 := PySem.W.mg_of X G a16
  have F16 := fun_mk (st := s_need_place) l16 c16 k16
  have g17 := PySem.W.mg_of X G a17
  have F17 := fun_mk (st := s_need_polygons) l17 c17 k17
  have g18 := PySem.W.mg_of X G a18
  have F18 := fun_mk (st := s__whole_place) l18 c18 k18
  have g19 := PySem.W.mg_of X G a19
  have F19 := fun_mk (st := s__line) l19 c19 k19
  have g20 := PySem.W.mg_of X G a20
  have F20 := fun_mk (st := s__box) l20 c20 k20
  have F21 := fun_mk (st := s_Edge___init__) l21 c21 k21
  have g22 := PySem.W.mg_of X G a22
  have F22 := fun_mk (st := s_edges_of) l22 c22 k22
  have g23 := PySem.W.mg_of X G a23
  have F23 := fun_mk (st := s__side) l23 c23 k23
  have g24 := PySem.W.mg_of X G a24
  have F24 := fun_mk (st := s__are_apart) l24 c24 k24
  have g25 := PySem.W.mg_of X G a25
  have F25 := fun_mk (st := s__meet) l25 c25 k25
  have g26 := PySem.W.mg_of X G a26
  have F26 := fun_mk (st := s__touch) l26 c26 k26
  have g27 := PySem.W.mg_of X G a27
  have F27 := fun_mk (st := s__folds_back) l27 c27 k27
  have g28 := PySem.W.mg_of X G a28
  have F28 := fun_mk (st := s__have_too_much) l28 c28 k28
  have g29 := PySem.W.mg_of X G a29
  have F29 := fun_mk (st := s__found_crossing) l29 c29 k29
  have g30 := PySem.W.mg_of X G a30
  have F30 := fun_mk (st := s_first_crossing) l30 c30 k30
  have g31 := PySem.W.mg_of X G a31
  have F31 := fun_mk (st := s__law_cell) l31 c31 k31
  have g32 := PySem.W.mg_of X G a32
  have F32 := fun_mk (st := s__law_box) l32 c32 k32
  have g33 := PySem.W.mg_of X G a33
  have F33 := fun_mk (st := s__law_take) l33 c33 k33
  have g34 := PySem.W.mg_of X G a34
  have F34 := fun_mk (st := s__law_number) l34 c34 k34
  have g35 := PySem.W.mg_of X G a35
  have F35 := fun_mk (st := s__law_told) l35 c35 k35
  have g36 := PySem.W.mg_of X G a36
  have F36 := fun_mk (st := s__law_edges) l36 c36 k36
  have g37 := PySem.W.mg_of X G a37
  have F37 := fun_mk (st := s__law_cross) l37 c37 k37
  have g38 := PySem.W.mg_of X G a38
  have F38 := fun_mk (st := s__law_along) l38 c38 k38
  have g39 := PySem.W.mg_of X G a39
  have F39 := fun_mk (st := s__law_shared) l39 c39 k39
  have g40 := PySem.W.mg_of X G a40
  have F40 := fun_mk (st := s__law_folded) l40 c40 k40
  have g41 := PySem.W.mg_of X G a41
  have F41 := fun_mk (st := s__law_due) l41 c41 k41
  have g42 := PySem.W.mg_of X G a42
  have F42 := fun_mk (st := s__law_round) l42 c42 k42
  have g43 := PySem.W.mg_of X G a43
  have F43 := fun_mk (st := s__law_comb) l43 c43 k43
  have g44 := PySem.W.mg_of X G a44
  have F44 := fun_mk (st := s__law_scene) l44 c44 k44
  have g45 := PySem.W.mg_of X G a45
  have F45 := fun_mk (st := s_law) l45 c45 k45
  have n_is_int := fn_is_int (P := l.prog) (w := w) (base := base) F0 B 
  have c_is_int := calN n_is_int g0 F0 (fun _ _ _ _ _ _ us hl => match us, hl with | [_], _ => rfl)
  have n_is_list := fn_is_list (P := l.prog) (w := w) (base := base) F1 B 
  have c_is_list := calN n_is_list g1 F1 (fun _ _ _ _ _ _ us hl => match us, hl with | [_, _, _], _ => rfl)
  have n_is_number := fn_is_number (P := l.prog) (w := w) (base := base) F2 B c_is_int
  have c_is_number := calN n_is_number g2 F2 (fun _ _ _ _ _ _ us hl => match us, hl with | [_], _ => rfl)
  have cq_is_number := c_is_number.imp im_isnum
  have n_need_number := fn_need_number (P := l.prog) (w := w) (base := base) F3 B c_is_number
  have c_need_number := calN n_need_number g3 F3 (fun _ _ _ _ _ _ us hl => match us, hl with | [_], _ => rfl)
  have n_pair_of := fn_pair_of (P := l.prog) (w := w) (base := base) F4 B 
  have c_pair_of := calN n_pair_of g4 F4 (fun _ _ _ _ _ _ us hl => match us, hl with | [_], _ => rfl)
  have cq_pair_of := c_pair_of.imp im_pair
  have n_lowest := fn_lowest (P := l.prog) (w := w) (base := base) F5 B 
  have c_lowest := calN n_lowest g5 F5 (fun _ _ _ _ _ _ us hl => match us, hl with | [_, _], _ => rfl)
  have n__added := fn__added (P := l.prog) (w := w) (base := base) F6 B c_pair_of
  have c__added := calN n__added g6 F6 (fun _ _ _ _ _ _ us hl => match us, hl with | [_, _], _ => rfl)
  have n__negated := fn__negated (P := l.prog) (w := w) (base := base) F7 B c_pair_of
  have c__negated := calN n__negated g7 F7 (fun _ _ _ _ _ _ us hl => match us, hl with | [_], _ => rfl)
  have n__is_less := fn__is_less (P := l.prog) (w := w) (base := base) F8 B c_pair_of
  have c__is_less := calN n__is_less g8 F8 (fun _ _ _ _ _ _ us hl => match us, hl with | [_, _], _ => rfl)
  have n_plus := fn_plus (P := l.prog) (w := w) (base := base) F9 B c__added c_need_number
  have c_plus := calN n_plus g9 F9 (fun _ _ _ _ _ _ us hl => match us, hl with | [_, _], _ => rfl)
  have cq_plus := c_plus.imp im_add
  have n_minus := fn_minus (P := l.prog) (w := w) (base := base) F10 B c__added c__negated c_need_number
  have c_minus := calN n_minus g10 F10 (fun _ _ _ _ _ _ us hl => match us, hl with | [_, _], _ => rfl)
  have cq_minus := c_minus.imp im_sub
  have n_times := fn_times (P := l.prog) (w := w) (base := base) F11 B c_lowest c_pair_of c_need_number
  have c_times := calN n_times g11 F11 (fun _ _ _ _ _ _ us hl => match us, hl with | [_, _], _ => rfl)
  have cq_times := c_times.imp im_mul
  have n_sign_of := fn_sign_of (P := l.prog) (w := w) (base := base) F12 B c_pair_of c_need_number
  have c_sign_of := calN n_sign_of g12 F12 (fun _ _ _ _ _ _ us hl => match us, hl with | [_], _ => rfl)
  have cq_sign_of := c_sign_of.imp im_sign
  have n_less := fn_less (P := l.prog) (w := w) (base := base) F13 B c__is_less c_need_number
  have c_less := calN n_less g13 F13 (fun _ _ _ _ _ _ us hl => match us, hl with | [_, _], _ => rfl)
  have cq_less := c_less.imp im_less
  have n_floor_of := fn_floor_of (P := l.prog) (w := w) (base := base) F14 B c_lowest c_pair_of c_sign_of c_need_number
  have ck_floor_of_1 := calKD n_floor_of g14 F14 1 [] [("step", V.int 1)] [0, 1] (by intro z; cases z) (by intro q hq; simp only [List.mem_cons, List.not_mem_nil, or_false] at hq; subst hq; simp) (fun _ _ _ _ _ _ us mv ws h1 h2 h3 => match us, h1, mv, h2, ws, h3 with | [_], _, [_], _, [], _ => ⟨_, _, _, _, _, _, rfl, rfl, rfl⟩)
  have qck_floor_of_1 := ck_floor_of_1.imp im_floor
  have n_is_place := fn_is_place (P := l.prog) (w := w) (base := base) F15 B cq_is_number
  have c_is_place := calN n_is_place g15 F15 (fun _ _ _ _ _ _ us hl => match us, hl with | [_], _ => rfl)
  have n_need_place := fn_need_place (P := l.prog) (w := w) (base := base) F16 B c_is_place
  have c_need_place := calN n_need_place g16 F16 (fun _ _ _ _ _ _ us hl => match us, hl with | [_], _ => rfl)
  have n_need_polygons := fn_need_polygons (P := l.prog) (w := w) (base := base) F17 B c_need_place c_is_list
  have c_need_polygons := calN n_need_polygons g17 F17 (fun _ _ _ _ _ _ us hl => match us, hl with | [_], _ => rfl)
  have n__whole_place := fn__whole_place (P := l.prog) (w := w) (base := base) F18 B cq_pair_of
  have c__whole_place := calN n__whole_place g18 F18 (fun _ _ _ _ _ _ us hl => match us, hl with | [_], _ => rfl)
  have n__line := fn__line (P := l.prog) (w := w) (base := base) F19 B 
  have c__line := calN n__line g19 F19 (fun _ _ _ _ _ _ us hl => match us, hl with | [_, _], _ => rfl)
  have n__box := fn__box (P := l.prog) (w := w) (base := base) F20 B qck_floor_of_1
  have c__box := calN n__box g20 F20 (fun _ _ _ _ _ _ us hl => match us, hl with | [_, _], _ => rfl)
  have n_Edge___init__ := fn_Edge___init__ (P := l.prog) (w := w) (base := base) F21 B cl_Edge na_Edge_box na_Edge_line na_Edge_whole_end na_Edge_whole_begin na_Edge_end na_Edge_begin na_Edge_follower na_Edge_at c__box c__line c__whole_place
  have i_Edge___init__ : CalI l.prog w K mg base 7 C_Edge "Edge" ["self", "at", "follower", "begin", "end"] (spEdge C_Edge) := ⟨_, _, ⟨mk_Edge, a21, i21, kc_Edge⟩, n_Edge___init__, (F21.binds (ps := ["self", "at", "follower", "begin", "end"]) (fun _ _ _ _ _ _ us hl => match us, hl with | [_, _, _, _, _], _ => rfl)), PySem.W.mg_of X G aC_Edge⟩
  have n_edges_of := fn_edges_of (P := l.prog) (w := w) (base := base) F22 B cl_Edge i_Edge___init__
  have c_edges_of := calN n_edges_of g22 F22 (fun _ _ _ _ _ _ us hl => match us, hl with | [_, _], _ => rfl)
  have n__side := fn__side (P := l.prog) (w := w) (base := base) F23 B 
  have c__side := calN n__side g23 F23 (fun _ _ _ _ _ _ us hl => match us, hl with | [_, _], _ => rfl)
  have n__are_apart := fn__are_apart (P := l.prog) (w := w) (base := base) F24 B cl_Edge na_Edge_box
  have c__are_apart := calN n__are_apart g24 F24 (fun _ _ _ _ _ _ us hl => match us, hl with | [_, _], _ => rfl)
  have n__meet := fn__meet (P := l.prog) (w := w) (base := base) F25 B cq_less
  have c__meet := calN n__meet g25 F25 (fun _ _ _ _ _ _ us hl => match us, hl with | [_, _], _ => rfl)
  have n__touch := fn__touch (P := l.prog) (w := w) (base := base) F26 B cl_Edge na_Edge_whole_begin na_Edge_line na_Edge_whole_end na_Edge_end na_Edge_begin c__side c__meet c__are_apart
  have c__touch := calN n__touch g26 F26 (fun _ _ _ _ _ _ us hl => match us, hl with | [_, _], _ => rfl)
  have n__folds_back := fn__folds_back (P := l.prog) (w := w) (base := base) F27 B cl_Edge na_Edge_end na_Edge_begin na_Edge_whole_end na_Edge_line cq_sign_of cq_plus cq_times cq_minus c__side
  have c__folds_back := calN n__folds_back g27 F27 (fun _ _ _ _ _ _ us hl => match us, hl with | [_, _], _ => rfl)
  have n__have_too_much := fn__have_too_much (P := l.prog) (w := w) (base := base) F28 B cl_Edge na_Edge_follower na_Edge_at c__touch c__folds_back
  have c__have_too_much := calN n__have_too_much g28 F28 (fun _ _ _ _ _ _ us hl => match us, hl with | [_, _], _ => rfl)
  have n__found_crossing := fn__found_crossing (P := l.prog) (w := w) (base := base) F29 B cl_Edge na_Edge_at c__have_too_much c_edges_of
  have c__found_crossing := calN n__found_crossing g29 F29 (fun _ _ _ _ _ _ us hl => match us, hl with | [_], _ => rfl)
  have n_first_crossing := fn_first_crossing (P := l.prog) (w := w) (base := base) F30 B c__found_crossing c_need_polygons
  have c_first_crossing := calN n_first_crossing g30 F30 (fun _ _ _ _ _ _ us hl => match us, hl with | [_], _ => rfl)
  have ck_first_crossing_0_parts := calK n_first_crossing g30 F30 0 ["parts"] [0] (fun _ _ _ _ _ _ us ws h1 h2 => match us, h1, ws, h2 with | [], _, [_], _ => rfl)
  have n__law_cell := fn__law_cell (P := l.prog) (w := w) (base := base) F31 B 
  have c__law_cell := calN n__law_cell g31 F31 (fun _ _ _ _ _ _ us hl => match us, hl with | [_, _], _ => rfl)
  have n__law_box := fn__law_box (P := l.prog) (w := w) (base := base) F32 B 
  have c__law_box := calN n__law_box g32 F32 (fun _ _ _ _ _ _ us hl => match us, hl with | [_], _ => rfl)
  have n__law_take := fn__law_take (P := l.prog) (w := w) (base := base) F33 B 
  have c__law_take := calN n__law_take g33 F33 (fun _ _ _ _ _ _ us hl => match us, hl with | [_, _], _ => rfl)
  have n__law_number := fn__law_number (P := l.prog) (w := w) (base := base) F34 B 
  have c__law_number := calN n__law_number g34 F34 (fun _ _ _ _ _ _ us hl => match us, hl with | [_, _], _ => rfl)
  have n__law_told := fn__law_told (P := l.prog) (w := w) (base := base) F35 B c__law_number
  have c__law_told := calN n__law_told g35 F35 (fun _ _ _ _ _ _ us hl => match us, hl with | [_, _], _ => rfl)
  have n__law_edges := fn__law_edges (P := l.prog) (w := w) (base := base) F36 B 
  have c__law_edges := calN n__law_edges g36 F36 (fun _ _ _ _ _ _ us hl => match us, hl with | [_], _ => rfl)
  have n__law_cross := fn__law_cross (P := l.prog) (w := w) (base := base) F37 B 
  have c__law_cross := calN n__law_cross g37 F37 (fun _ _ _ _ _ _ us hl => match us, hl with | [_, _], _ => rfl)
  have n__law_along := fn__law_along (P := l.prog) (w := w) (base := base) F38 B 
  have c__law_along := calN n__law_along g38 F38 (fun _ _ _ _ _ _ us hl => match us, hl with | [_, _, _], _ => rfl)
  have n__law_shared := fn__law_shared (P := l.prog) (w := w) (base := base) F39 B c__law_cross c__law_along
  have c__law_shared := calN n__law_shared g39 F39 (fun _ _ _ _ _ _ us hl => match us, hl with | [_, _], _ => rfl)
  have n__law_folded := fn__law_folded (P := l.prog) (w := w) (base := base) F40 B c__law_cross
  have c__law_folded := calN n__law_folded g40 F40 (fun _ _ _ _ _ _ us hl => match us, hl with | [_, _], _ => rfl)
  have n__law_due := fn__law_due (P := l.prog) (w := w) (base := base) F41 B c__law_folded c__law_shared c__law_edges
  have c__law_due := calN n__law_due g41 F41 (fun _ _ _ _ _ _ us hl => match us, hl with | [_], _ => rfl)
  have n__law_round := fn__law_round (P := l.prog) (w := w) (base := base) F42 B c__law_take
  have c__law_round := calN n__law_round g42 F42 (fun _ _ _ _ _ _ us hl => match us, hl with | [_], _ => rfl)
  have n__law_comb := fn__law_comb (P := l.prog) (w := w) (base := base) F43 B c__law_take
  have c__law_comb := calN n__law_comb g43 F43 (fun _ _ _ _ _ _ us hl => match us, hl with | [_], _ => rfl)
  have n__law_scene := fn__law_scene (P := l.prog) (w := w) (base := base) F44 B c__law_take c__law_round
  have c__law_scene := calN n__law_scene g44 F44 (fun _ _ _ _ _ _ us hl => match us, hl with | [_], _ => rfl)
  exact fn_law (P := l.prog) (w := w) (base := base) F45 B c__law_told c__law_take c_first_crossing c__law_due c__law_comb c__law_scene c__law_box c__law_cell ck_first_crossing_0_parts
end HP
open PySem PySem.W PyProof.Rows
set_option maxHeartbeats 0 in
theorem PySem.Challenge.cw_hintedpoints_k25_first_two_that_cross_holds : PySem.Challenge.rw_hintedpoints_k25_first_two_that_cross.Holds := by
  w_on; o_law; k_head; (case hw => w_witness2)
  k_fill
  refine HP.walkG (l := PySem.Challenge.rw_hintedpoints_k25_first_two_that_cross) (n := 63) (k := 12) (x := "_law_script") (sp := fun w => HP.spN 1 (HP.spLaw _)) rfl (by decide) rfl ⟨rfl, by decide, by decide⟩ (fun w h Y => PySem.W.kIn_of Y) ?F (fun _ _ a ns hl _ hS => ⟨rfl, a, ns, rfl, hS, hl, fun _ => rfl⟩)
  case F =>
    intro w mg fa h KX G hmg
    refine' HP.all_mk KX G hmg ?aC_Edge ?pg_Edge ?hd_Edge ?po_Edge ?sa_Edge ?mk_Edge ?kc_Edge ?na_Edge_box ?na_Edge_line ?na_Edge_whole_end ?na_Edge_whole_begin ?na_Edge_end ?na_Edge_begin ?na_Edge_follower ?na_Edge_at ?a0 ?l0 ?c0 ?k0 ?a1 ?l1 ?c1 ?k1 ?a2 ?l2 ?c2 ?k2 ?a3 ?l3 ?c3 ?k3 ?a4 ?l4 ?c4 ?k4 ?a5 ?l5 ?c5 ?k5 ?a6 ?l6 ?c6 ?k6 ?a7 ?l7 ?c7 ?k7 ?a8 ?l8 ?c8 ?k8 ?a9 ?l9 ?c9 ?k9 ?a10 ?l10 ?c10 ?k10 ?a11 ?l11 ?c11 ?k11 ?a12 ?l12 ?c12 ?k12 ?a13 ?l13 ?c13 ?k13 ?a14 ?l14 ?c14 ?k14 ?q14_step ?a15 ?l15 ?c15 ?k15 ?a16 ?l16 ?c16 ?k16 ?a17 ?l17 ?c17 ?k17 ?a18 ?l18 ?c18 ?k18 ?a19 ?l19 ?c19 ?k19 ?a20 ?l20 ?c20 ?k20 ?a21 ?i21 ?l21 ?c21 ?k21 ?a22 ?l22 ?c22 ?k22 ?a23 ?l23 ?c23 ?k23 ?a24 ?l24 ?c24 ?k24 ?a25 ?l25 ?c25 ?k25 ?a26 ?l26 ?c26 ?k26 ?a27 ?l27 ?c27 ?k27 ?a28 ?l28 ?c28 ?k28 ?a29 ?l29 ?c29 ?k29 ?a30 ?l30 ?c30 ?k30 ?a31 ?l31 ?c31 ?k31 ?a32 ?l32 ?c32 ?k32 ?a33 ?l33 ?c33 ?k33 ?a34 ?l34 ?c34 ?k34 ?a35 ?l35 ?c35 ?k35 ?a36 ?l36 ?c36 ?k36 ?a37 ?l37 ?c37 ?k37 ?a38 ?l38 ?c38 ?k38 ?a39 ?l39 ?c39 ?k39 ?a40 ?l40 ?c40 ?k40 ?a41 ?l41 ?c41 ?k41 ?a42 ?l42 ?c42 ?k42 ?a43 ?l43 ?c43 ?k43 ?a44 ?l44 ?c44 ?k44 ?a45 ?l45 ?c45 ?k45 ?z_isinstance ?z_bool ?z_int ?z_len ?z_tuple ?z_list ?z_gcd ?z_all ?z_MOST_PLACES ?z_MOST_POLYGONS ?z_lcm ?z_max ?z_min ?z_zip ?z_enumerate ?z_abs ?z_sorted ?z_range ?z_repr
    (case aC_Edge => k_is); (case pg_Edge => k_is); (case hd_Edge => k_is); (case po_Edge => k_is); (case sa_Edge => k_is); (case mk_Edge => k_is); (case kc_Edge => k_is); (case na_Edge_box => k_is); (case na_Edge_line => k_is); (case na_Edge_whole_end => k_is); (case na_Edge_whole_begin => k_is); (case na_Edge_end => k_is); (case na_Edge_begin => k_is); (case na_Edge_follower => k_is); (case na_Edge_at => k_is); (case a0 => k_is); (case l0 => k_is); (case c0 => k_is); (case k0 => k_is); (case a1 => k_is); (case l1 => k_is); (case c1 => k_is); (case k1 => k_is); (case a2 => k_is); (case l2 => k_is); (case c2 => k_is); (case k2 => k_is); (case a3 => k_is); (case l3 => k_is); (case c3 => k_is); (case k3 => k_is); (case a4 => k_is); (case l4 => k_is); (case c4 => k_is); (case k4 => k_is); (case a5 => k_is); (case l5 => k_is); (case c5 => k_is); (case k5 => k_is); (case a6 => k_is); (case l6 => k_is); (case c6 => k_is); (case k6 => k_is); (case a7 => k_is); (case l7 => k_is); (case c7 => k_is); (case k7 => k_is); (case a8 => k_is); (case l8 => k_is); (case c8 => k_is); (case k8 => k_is); (case a9 => k_is); (case l9 => k_is); (case c9 => k_is); (case k9 => k_is); (case a10 => k_is); (case l10 => k_is); (case c10 => k_is); (case k10 => k_is); (case a11 => k_is); (case l11 => k_is); (case c11 => k_is); (case k11 => k_is); (case a12 => k_is); (case l12 => k_is); (case c12 => k_is); (case k12 => k_is); (case a13 => k_is); (case l13 => k_is); (case c13 => k_is); (case k13 => k_is); (case a14 => k_is); (case l14 => k_is); (case c14 => k_is); (case k14 => k_is); (case q14_step => k_is); (case a15 => k_is); (case l15 => k_is); (case c15 => k_is); (case k15 => k_is); (case a16 => k_is); (case l16 => k_is); (case c16 => k_is); (case k16 => k_is); (case a17 => k_is); (case l17 => k_is); (case c17 => k_is); (case k17 => k_is); (case a18 => k_is); (case l18 => k_is); (case c18 => k_is); (case k18 => k_is); (case a19 => k_is); (case l19 => k_is); (case c19 => k_is); (case k19 => k_is); (case a20 => k_is); (case l20 => k_is); (case c20 => k_is); (case k20 => k_is); (case a21 => k_is); (case i21 => k_is); (case l21 => k_is); (case c21 => k_is); (case k21 => k_is); (case a22 => k_is); (case l22 => k_is); (case c22 => k_is); (case k22 => k_is); (case a23 => k_is); (case l23 => k_is); (case c23 => k_is); (case k23 => k_is); (case a24 => k_is); (case l24 => k_is); (case c24 => k_is); (case k24 => k_is); (case a25 => k_is); (case l25 => k_is); (case c25 => k_is); (case k25 => k_is); (case a26 => k_is); (case l26 => k_is); (case c26 => k_is); (case k26 => k_is); (case a27 => k_is); (case l27 => k_is); (case c27 => k_is); (case k27 => k_is); (case a28 => k_is); (case l28 => k_is); (case c28 => k_is); (case k28 => k_is); (case a29 => k_is); (case l29 => k_is); (case c29 => k_is); (case k29 => k_is); (case a30 => k_is); (case l30 => k_is); (case c30 => k_is); (case k30 => k_is); (case a31 => k_is); (case l31 => k_is); (case c31 => k_is); (case k31 => k_is); (case a32 => k_is); (case l32 => k_is); (case c32 => k_is); (case k32 => k_is); (case a33 => k_is); (case l33 => k_is); (case c33 => k_is); (case k33 => k_is); (case a34 => k_is); (case l34 => k_is); (case c34 => k_is); (case k34 => k_is); (case a35 => k_is); (case l35 => k_is); (case c35 => k_is); (case k35 => k_is); (case a36 => k_is); (case l36 => k_is); (case c36 => k_is); (case k36 => k_is); (case a37 => k_is); (case l37 => k_is); (case c37 => k_is); (case k37 => k_is); (case a38 => k_is); (case l38 => k_is); (case c38 => k_is); (case k38 => k_is); (case a39 => k_is); (case l39 => k_is); (case c39 => k_is); (case k39 => k_is); (case a40 => k_is); (case l40 => k_is); (case c40 => k_is); (case k40 => k_is); (case a41 => k_is); (case l41 => k_is); (case c41 => k_is); (case k41 => k_is); (case a42 => k_is); (case l42 => k_is); (case c42 => k_is); (case k42 => k_is); (case a43 => k_is); (case l43 => k_is); (case c43 => k_is); (case k43 => k_is); (case a44 => k_is); (case l44 => k_is); (case c44 => k_is); (case k44 => k_is); (case a45 => k_is); (case l45 => k_is); (case c45 => k_is); (case k45 => k_is); (case z_isinstance => k_is); (case z_bool => k_is); (case z_int => k_is); (case z_len => k_is); (case z_tuple => k_is); (case z_list => k_is); (case z_gcd => k_is); (case z_all => k_is); (case z_MOST_PLACES => k_is); (case z_MOST_POLYGONS => k_is); (case z_lcm => k_is); (case z_max => k_is); (case z_min => k_is); (case z_zip => k_is); (case z_enumerate => k_is); (case z_abs => k_is); (case z_sorted => k_is); (case z_range => k_is); (case z_repr => k_is)
