import PyProof.Rows.All
import Wide.All
import OpenK.AllK
import Wide.FinOn
import HandS.ForMost
import HandS.Wide
import HandS.Gcd
import HandS.IsInst
import HandS.Defaults
import HandS.MakeKwOnly
import HandS.Exc
import HandS.TryOnly
import HandS.ExcOwn
import HandS.WordsExc
import HandS.ExcInit
import HandS.ExcField
import HandS.Style
import HandS.HotCalls
import HandS.ExcCtx
import HandS.ExcIs
import PySem.Challenge.RW_hintedpoints_k09_places_moved
set_option Elab.async false
set_option linter.all false
set_option maxRecDepth 100000
set_option maxHeartbeats 4000000
namespace HP
open PySem PySem.Spec PyProof.Rows L2

/-! ### a def that can be called -/
def spN (n : Nat) (sp : Sp) : Sp := fun vs H Q E => vs.length = n ∧ sp vs H Q E
structure Cal (P : Program) (w : World) (K : PySem.W.Frag) (mg : Str → Option Value) (base : Heap) (k : Nat) (x : Str) (ps : List Str) (sp : Sp) : Prop where
  ex : ∃ (f : Addr) (fd : FuncData), FnOk P w K mg base CX0 k f fd ps (spN ps.length sp) ∧ mg x = some (.ref f) ∧ PySem.W.keepIn K (.ref f) = true ∧ Binds K fd ps []
section
variable {P : Program} {w : World} {K : PySem.W.Frag} {mg : Str → Option Value} {base : Heap}
theorem fnN {x : Str} {st : Stmt} {f : Addr} {fd : FuncData} {N ps : List Str} {k : Nat} {sp : Sp} (F : Fun K x x st f fd) (S : FnScope N ps (defScope st))
    (hbody : ∀ (cdv : Value) (A : Around) (outer : List Env) (s : Shared) (H : Hp) (vs : List V) (Q : VK) (E : XK), Room k (A.deeper (envOfC x (defScope st) s.heap.objs.size f cdv)) → sp vs H Q E →
      ∃ t, PSs (cxOf CX0 P w K mg base N x (defScope st) f cdv A outer s H E).nox (defBody st) t ∧ t { nx := fun _ H' => Q .non H', rt := Q } (start N vs) H) : FnOk P w K mg base CX0 (k + 1) f fd ps (spN ps.length sp) :=
  F.ok S (fun _ _ _ _ h => h.1) (fun cdv A outer s H vs Q E hr h => hbody cdv A outer s H vs Q E hr h.2)
theorem fnD {x : Str} {st : Stmt} {dvs : List V} {kws : List (Str × V)} {f : Addr} {fd : FuncData} {N ps : List Str} {k : Nat} {sp : Sp} (F : FunD K x x (defArgs st) (defBody st) (defScope st) dvs kws f fd) (S : FnScope N ps (defScope st))
    (hbody : ∀ (cdv : Value) (A : Around) (outer : List Env) (s : Shared) (H : Hp) (vs : List V) (Q : VK) (E : XK), Room k (A.deeper (envOfC x (defScope st) s.heap.objs.size f cdv)) → sp vs H Q E →
      ∃ t, PSs (cxOf CX0 P w K mg base N x (defScope st) f cdv A outer s H E).nox (defBody st) t ∧ t { nx := fun _ H' => Q .non H', rt := Q } (start N vs) H) : FnOk P w K mg base CX0 (k + 1) f fd ps (spN ps.length sp) :=
  F.ok S (fun _ _ _ _ h => h.1) (fun cdv A outer s H vs Q E hr h => by
    obtain ⟨t, h1, h2⟩ := hbody cdv A outer s H vs Q E hr h.2
    exact ⟨t, h1.nox, h2⟩)
theorem calN {x : Str} {st : Stmt} {f : Addr} {fd : FuncData} {ps : List Str} {k : Nat} {sp : Sp} (n : FnOk P w K mg base CX0 k f fd ps (spN ps.length sp)) (g : mg x = some (.ref f)) (F : Fun K x x st f fd)
    (b : ∀ (kV doc pm : Value) (an : Option Addr) (cdv ct : Value) (us : List Value), us.length = ps.length → bindArgs (PySem.W.fnOf x x (defArgs st) (defBody st) (defScope st) .none kV doc pm an cdv ct) ⟨us, []⟩ = pure (ps.zip us)) : Cal P w K mg base k x ps sp :=
  ⟨f, fd, n, g, F.kp, F.binds b⟩
/-! .. by keywords: perm tells where each parameter stands among the positional values, the lacking ones' defaults, the keywords' values -/
def pick {α : Type} : List Nat → List α → List α
  | [], _ => []
  | i :: l, xs => match xs[i]? with
    | some x => x :: pick l xs
    | none => pick l xs
theorem vals_get : ∀ {vs : List V} {us : List Value}, Vals vs us → ∀ i : Nat, (vs[i]? = none ∧ us[i]? = none) ∨ ∃ v u, vs[i]? = some v ∧ us[i]? = some u ∧ RelV v u
  | [], _, .nil, i => .inl ⟨by simp, by simp⟩
  | v :: vs, _, .cons r _, 0 => .inr ⟨v, _, rfl, rfl, r⟩
  | v :: vs, _, .cons _ t, i + 1 => by
    have := vals_get t i
    simpa using this
theorem pick_vals {vs : List V} {us : List Value} (r : Vals vs us) : ∀ l : List Nat, Vals (pick l vs) (pick l us)
  | [] => .nil
  | i :: l => by
    unfold pick
    rcases vals_get r i with ⟨h1, h2⟩ | ⟨v, u, h1, h2, h3⟩
    · rw [h1, h2]
      exact pick_vals r l
    · rw [h1, h2]
      exact .cons h3 (pick_vals r l)
structure CalK (P : Program) (w : World) (K : PySem.W.Frag) (mg : Str → Option Value) (base : Heap) (k : Nat) (x : Str) (ps : List Str) (sp : Sp) (n : Nat) (ks : List Str) (dvs : List V) (perm : List Nat) : Prop where
  ex : ∃ (f : Addr) (fd : FuncData) (mv : List Value), FnOk P w K mg base CX0 k f fd ps (spN ps.length sp) ∧ mg x = some (.ref f) ∧ PySem.W.keepIn K (.ref f) = true ∧ KBn K fd ps n ks (fun us ws => pick perm (us ++ (mv ++ ws))) (fun vs zs => pick perm (vs ++ (dvs ++ zs)))
theorem calK {x : Str} {st : Stmt} {f : Addr} {fd : FuncData} {ps : List Str} {k : Nat} {sp : Sp} (n : FnOk P w K mg base CX0 k f fd ps (spN ps.length sp)) (g : mg x = some (.ref f)) (F : Fun K x x st f fd) (m : Nat) (ks : List Str) (perm : List Nat)
    (b : ∀ (kV doc pm : Value) (an : Option Addr) (cdv ct : Value) (us ws : List Value), us.length = m → ws.length = ks.length → bindArgs (PySem.W.fnOf x x (defArgs st) (defBody st) (defScope st) .none kV doc pm an cdv ct) ⟨us, ks.zip ws⟩ = pure (ps.zip (pick perm (us ++ ws)))) : CalK P w K mg base k x ps sp m ks [] perm := by
  obtain ⟨oc, od, kV, doc, pm, an, cdv, ct, osl, rfl, lk, hcd⟩ := F.ex
  exact ⟨f, _, [], n, g, F.kp, ⟨fun s us ws _ l1 l2 => .of_eq (b kV doc pm an cdv ct us ws l1 l2), fun r1 r2 => pick_vals (r1.append r2) perm⟩⟩
theorem calKD {x : Str} {st : Stmt} {kws : List (Str × V)} {f : Addr} {fd : FuncData} {ps : List Str} {k : Nat} {sp : Sp} (n : FnOk P w K mg base CX0 k f fd ps (spN ps.length sp)) (g : mg x = some (.ref f)) (F : FunD K x x (defArgs st) (defBody st) (defScope st) [] kws f fd) (m : Nat) (ks : List Str) (ms : List (Str × V)) (perm : List Nat)
    (hk : kws ≠ []) (hms : ∀ q ∈ ms, q ∈ kws)
    (b : ∀ (D : Addr) (doc pm : Value) (an : Option Addr) (cdv ct : Value) (us mv ws : List Value), us.length = m → mv.length = ms.length → ws.length = ks.length →
      KwChain D ((ms.map (·.1)).zip mv) (bindArgs (PySem.W.fnOf x x (defArgs st) (defBody st) (defScope st) .none (.ref D) doc pm an cdv ct) ⟨us, ks.zip ws⟩) (ps.zip (pick perm (us ++ (mv ++ ws))))) : CalK P w K mg base k x ps sp m ks (ms.map (·.2)) perm := by
  obtain ⟨mv, hb⟩ := F.kbinds0 m ks ms (fun {α} us mv ws => pick perm (us ++ (mv ++ ws))) hk hms (fun r1 r2 r3 => pick_vals (r1.append (r2.append r3)) perm) b
  exact ⟨f, fd, mv, n, g, F.kp, hb⟩
end
def tCal (n : Nat) (sp : Sp) (t : TA) : TE := fun σ H Q => t σ H fun vs H1 => vs.length = n ∧ sp vs H1 Q E0
section
variable {X : Cx} {k j : Nat} {x : Str} {ps : List Str} {sp : Sp} {p pos : Pos} {e : Expr} {es : List Expr} {t : TA}
theorem pe_cal (C : Cal X.prog X.w X.K X.mg X.base k x ps sp) (hr : Room j X.A) (hkj : k ≤ j) (hg : Gl X x) (ha : PA X (e :: es) t) (hdb : (x == ("__debug__" : Str)) = false := by decide)
    (he : starEach (e :: es) X.env = (false, eval e X.env) :: starEach es X.env := by rfl) (hpl : (backTo pos (starEach es X.env)).any (·.1) = false := by rfl) : PE X (.Call (.Name x p) (e :: es) [] pos) (tCal ps.length sp t) := by
  obtain ⟨f, fd, F, hm, hk, hb⟩ := C.ex
  have q := pe_call F (hr.mono hkj) hg hm hk hb .nil pass0 ha hdb he hpl (p := p)
  refine ⟨fun pins s σ H Q I h => q.run pins s σ H Q I ?_⟩
  have e1 : (fun (vs : List V) (H1 : Hp) => vs.length = ps.length ∧ sp vs H1 Q E0) = fun vs H1 => spN ps.length sp (vs ++ []) H1 Q E0 := by
    funext vs H1
    rw [List.append_nil]
    rfl
  show t σ H fun vs H1 => spN ps.length sp (vs ++ []) H1 Q E0
  rw [← e1]
  exact h
def tCalK (n m np : Nat) (sp : Sp) (dvs : List V) (perm : List Nat) (t tk : TA) : TE := fun σ H Q => t σ H fun vs H1 => tk σ H1 fun zs H2 => vs.length = n ∧ zs.length = m ∧ (pick perm (vs ++ (dvs ++ zs))).length = np ∧ sp (pick perm (vs ++ (dvs ++ zs))) H2 Q E0
variable {n : Nat} {ks : List Str} {dvs : List V} {perm : List Nat} {kws : List Keyword} {tk : TA}
theorem pe_calK (C : CalK X.prog X.w X.K X.mg X.base k x ps sp n ks dvs perm) (hr : Room j X.A) (hkj : k ≤ j) (hg : Gl X x) (ha : PA X (e :: es) t) (hkw : PK X kws tk) (hall : (backToKw pos (keywordEach kws X.env)).all (·.1.isSome) = true := by rfl) (hks : (backToKw pos (keywordEach kws X.env)).filterMap (·.1) = ks := by rfl)
    (hdb : (x == ("__debug__" : Str)) = false := by decide) (he : starEach (e :: es) X.env = (false, eval e X.env) :: starEach es X.env := by rfl)
    (hpl : ((backTo pos (starEach (e :: es) X.env)).any (·.1) || (backToKw pos (keywordEach kws X.env)).any (·.1.isNone)) = false := by rfl) : PE X (.Call (.Name x p) (e :: es) kws pos) (tCalK n ks.length ps.length sp dvs perm t tk) := by
  obtain ⟨f, fd, mv, F, hm, hk, hb⟩ := C.ex
  exact pe_callN F (hr.mono hkj) hg hm hk hb pass0 ha hkw hall hks hdb he hpl (p := p)
theorem pe_calK0 (C : CalK X.prog X.w X.K X.mg X.base k x ps sp 0 ks dvs perm) (hr : Room j X.A) (hkj : k ≤ j) (hg : Gl X x) (hkw : PK X kws tk) (hall : (backToKw pos (keywordEach kws X.env)).all (·.1.isSome) = true := by rfl) (hks : (backToKw pos (keywordEach kws X.env)).filterMap (·.1) = ks := by rfl)
    (hdb : (x == ("__debug__" : Str)) = false := by decide) (hpl : ((backTo pos (starEach [] X.env)).any (·.1) || (backToKw pos (keywordEach kws X.env)).any (·.1.isNone)) = false := by rfl) : PE X (.Call (.Name x p) [] kws pos) (tCalK 0 ks.length ps.length sp dvs perm tNil tk) := by
  obtain ⟨f, fd, mv, F, hm, hk, hb⟩ := C.ex
  refine ⟨fun pins s σ H Q I h => ?_⟩
  refine wpAny_Call_Name_kw (ld_glob I hg hm ?_ hdb)
  refine PySem.W.callWith_KW0 (h₀ := X.base) I.ok.mod.kin hk hall ?_ hpl
  refine thn (hkw.run pos pins s σ H _ I h) fun ws s2 ⟨zs, H2, I2, rz, l1, l2, q2⟩ => ⟨I2.kIn, ?_⟩
  rw [hks]
  exact run_fnN (us := []) (vs := []) F (hr.mono hkj) hb pass0 I2 .nil rz rfl l2 q2
end

/-! ### heaps -/
theorem Same.up {H : Hp} {p : Addr} {o : HO} (h : H p = none) : Same H (upd H p o) := fun b x e => by
  rw [upd_ne (ne_of_none e h)]
  exact e
def Go (bx : Addr) (H H' : Hp) : Prop := ∀ b o, H b = some o → b ≠ bx → H' b = some o
theorem Go.refl {bx : Addr} (H : Hp) : Go bx H H := fun _ _ h _ => h
theorem Go.trans {bx : Addr} {H H1 H2 : Hp} (a : Go bx H H1) (b : Go bx H1 H2) : Go bx H H2 := fun c o h n => b c o (a c o h n) n
theorem Go.of {bx : Addr} {H H' : Hp} (s : Same H H') : Go bx H H' := fun b o h _ => s b o h
theorem Go.set {bx : Addr} {H : Hp} {o : HO} : Go bx H (upd H bx o) := fun b x e n => by
  rw [upd_ne n]
  exact e
theorem Same.fr {H H' : Hp} (s : Same H H') {p : Addr} (h : H' p = none) : H p = none := s.free h

/-! ### bounds -/
structure Bt (n : Nat) (x : Int) : Prop where
  lt : x.natAbs < 2 ^ n
theorem Bt.mono {n m : Nat} {x : Int} (h : Bt n x) (hm : n ≤ m) : Bt m x := ⟨Nat.lt_of_lt_of_le h.lt (Nat.pow_le_pow_right (by decide) hm)⟩
theorem Bt.le {n : Nat} {x y : Int} (h : Bt n y) (l : x.natAbs ≤ y.natAbs) : Bt n x := ⟨Nat.lt_of_le_of_lt l h.lt⟩
theorem Bt.mul {n m : Nat} {x y : Int} (h : Bt n x) (k : Bt m y) : Bt (n + m) (x * y) := ⟨wide_lt h.lt k.lt⟩
theorem Bt.add {n m : Nat} {x y : Int} (h : Bt n x) (k : Bt m y) : Bt (n + m + 1) (x + y) := ⟨by
  have h1 := (h.mono (Nat.le_add_right n m)).lt
  have h2 := (k.mono (Nat.le_add_left m n)).lt
  rw [Nat.pow_succ]
  generalize 2 ^ (n + m) = z at h1 h2 ⊢
  omega⟩
theorem Bt.neg {n : Nat} {x : Int} (h : Bt n x) : Bt n (-x) := ⟨by rw [Int.natAbs_neg]; exact h.lt⟩
theorem Bt.sub {n m : Nat} {x y : Int} (h : Bt n x) (k : Bt m y) : Bt (n + m + 1) (x - y) := by
  rw [Int.sub_eq_add_neg]
  exact h.add k.neg
theorem Bt.small {x : Int} (h : -9223372036854775808 < x) (h' : x < 9223372036854775808) : Bt 63 x := ⟨by
  have e : (2 : Nat) ^ 63 = 9223372036854775808 := by decide
  rw [e]
  omega⟩
theorem Bt.log {n : Nat} {x : Int} (h : Bt n x) : x.natAbs.log2 < n + 1 := PySem.Flt.log2_lt_of (Nat.succ_pos n) (h.mono (Nat.le_succ n)).lt
theorem mulW {n m : Nat} {i j : Int} (h : Bt n i) (k : Bt m j) (l : n + m ≤ 900000) : CMulW i j := by
  have := h.log
  have := k.log
  unfold CMulW
  omega
/-- // by any divisor but 0, below 2 ^ 8900 -/
def CDivA (_ j : Int) : Prop := j ≠ 0 ∧ j.natAbs.log2 < 9000
theorem divA {n : Nat} {i j : Int} (h : j ≠ 0) (k : Bt n j) (l : n ≤ 8900) : CDivA i j := ⟨h, by have := k.log; omega⟩
section
variable {X : Cx}
theorem op_fdivA : OpR X (binaryOp .FloorDiv) (rI CDivA fun i j => .int (i.fdiv j)) := opI fun _ _ _ _ _ _ _ hc q => floordiv_int hc.1 q (.inl (PyProof.noPylong_of_log2 hc.2))
def rLenK (K : PySem.W.Frag) : List V → Hp → VK → Prop := fun xs H Q => ∃ x n, xs = [x] ∧ LenV K x H n ∧ Q (.int n) H
theorem call_lenK : CallR X (.builtin "len") (rLenK X.K) := call_len
def rAbs : List V → Hp → VK → Prop := fun xs H Q => ∃ i, xs = [.int i] ∧ Q (.int (if i < 0 then -i else i)) H
theorem call_absK : CallR X (.builtin "abs") rAbs := call_abs
def rMax : List V → Hp → VK → Prop := fun xs H Q => ∃ i j, xs = [.int i, .int j] ∧ Q (.int (if j > i then j else i)) H
theorem call_maxK (hc : X.calm = true) : CallR X (.builtin "max") rMax := call_max2 hc
def rMin : List V → Hp → VK → Prop := fun xs H Q => ∃ i j, xs = [.int i, .int j] ∧ Q (.int (if j < i then j else i)) H
theorem call_minK (hc : X.calm = true) : CallR X (.builtin "min") rMin := call_min2 hc
def rInt : List V → Hp → VK → Prop := fun xs H Q => (∃ i, xs = [.int i] ∧ Q (.int i) H) ∨ ∃ k, xs = [.bl k] ∧ Q (.int (if k then 1 else 0)) H
theorem call_intK : CallR X (.type "int") rInt := call_int1
theorem op_eqI : OpR X (compareOp .Eq) (rI0 fun i j => .bl (decide (i = j))) := fun pins s σ H x y v u Q I rx ry h => by
  obtain ⟨i, j, rfl, rfl, q⟩ := h
  refine op_eq pins s σ H _ _ v u Q I rx ry ⟨rfl, ?_⟩
  have e : decide (V.int i = V.int j) = decide (i = j) := by
    by_cases z : i = j
    · rw [decide_eq_true z, decide_eq_true (congrArg V.int z)]
    · rw [decide_eq_false z, decide_eq_false (fun y => z (V.int.inj y))]
  rw [e]
  exact q
theorem op_neI : OpR X (compareOp .NotEq) (rI0 fun i j => .bl (!decide (i = j))) := fun pins s σ H x y v u Q I rx ry h => by
  obtain ⟨i, j, rfl, rfl, q⟩ := h
  refine op_ne pins s σ H _ _ v u Q I rx ry ⟨rfl, ?_⟩
  have e : decide (V.int i = V.int j) = decide (i = j) := by
    by_cases z : i = j
    · rw [decide_eq_true z, decide_eq_true (congrArg V.int z)]
    · rw [decide_eq_false z, decide_eq_false (fun y => z (V.int.inj y))]
  rw [e]
  exact q
end

theorem Bt.abs {n : Nat} {x : Int} (h : Bt n x) : Bt n (if x < 0 then -x else x) := by
  split
  · exact h.neg
  · exact h
theorem fmod_lo (a : Int) {b : Int} (h : 0 < b) : 0 ≤ a.fmod b := by
  rw [Int.fmod_eq_emod_of_nonneg a (Int.le_of_lt h)]
  exact Int.emod_nonneg a (by omega)
theorem fmod_hi (a : Int) {b : Int} (h : 0 < b) : a.fmod b < b := Int.fmod_lt_of_pos a h
theorem Bt.max1 {n : Nat} {x : Int} (h : Bt n x) (hn : 1 ≤ n) : Bt n (if x > 1 then x else 1) := by
  split
  · exact h
  · exact (⟨by decide⟩ : Bt 1 1).mono hn
theorem max1_pos (x : Int) : 0 < (if x > 1 then x else 1) := by
  split <;> omega
theorem abs_abs (x : Int) : (if x < 0 then -x else x).natAbs = x.natAbs := by
  split
  · exact Int.natAbs_neg x
  · rfl
theorem fmod_abs {x y : Int} (hx : 0 ≤ x) (hy : 0 ≤ y) : (x.fmod y).natAbs = x.natAbs % y.natAbs := by
  rw [Int.fmod_eq_emod_of_nonneg x hy]
  obtain ⟨a, rfl⟩ := Int.eq_ofNat_of_zero_le hx
  obtain ⟨b, rfl⟩ := Int.eq_ofNat_of_zero_le hy
  exact Int.natAbs_natCast (a % b)
theorem fdiv_lo {a b : Int} (h : 0 ≤ a) (hb : 0 < b) : 0 ≤ a.fdiv b := by
  rw [Int.fdiv_eq_ediv_of_nonneg a (Int.le_of_lt hb)]
  exact Int.ediv_nonneg h (Int.le_of_lt hb)

/-! ### numbers -/
def cop (t b : Int) : Prop := Nat.gcd t.natAbs b.natAbs = 1
def Num (H : Hp) (v : V) (t b : Int) : Prop := (v = .int t ∧ b = 1) ∨ ∃ a, v = .ref a ∧ H a = some (.tup [.int t, .int b]) ∧ 2 ≤ b ∧ cop t b
theorem Num.pos {H : Hp} {v : V} {t b : Int} (h : Num H v t b) : 0 < b := by
  rcases h with ⟨_, rfl⟩ | ⟨_, _, _, h, _⟩
  · decide
  · omega
theorem Num.cop {H : Hp} {v : V} {t b : Int} (h : Num H v t b) : cop t b := by
  rcases h with ⟨_, rfl⟩ | ⟨_, _, _, _, h⟩
  · exact Nat.gcd_one_right _
  · exact h
theorem Num.same {H H' : Hp} {v : V} {t b : Int} (h : Num H v t b) (s : Same H H') : Num H' v t b := by
  rcases h with h | ⟨a, h1, h2, h3⟩
  · exact .inl h
  · exact .inr ⟨a, h1, s _ _ h2, h3⟩
theorem Num.int {H : Hp} {t : Int} : Num H (.int t) t 1 := .inl ⟨rfl, rfl⟩
/-- t' over b', lowest, of t over b -/
structure Low (t b t' b' : Int) : Prop where
  eq : t' * b = t * b'
  nt : t'.natAbs ≤ t.natAbs
  nb : b'.natAbs ≤ b.natAbs
theorem low_one {t1 b1 t2 b2 : Int} (p1 : 0 < b1) (p2 : 0 < b2) (c1 : HP.cop t1 b1) (c2 : HP.cop t2 b2) (h : t1 * b2 = t2 * b1) : t1 = t2 ∧ b1 = b2 := by
  have hn : t1.natAbs * b2.natAbs = t2.natAbs * b1.natAbs := by
    rw [← Int.natAbs_mul, ← Int.natAbs_mul, h]
  have d1 : b1.natAbs ∣ b2.natAbs := by
    have : b1.natAbs ∣ t1.natAbs * b2.natAbs := ⟨t2.natAbs, by rw [hn, Nat.mul_comm]⟩
    exact Nat.Coprime.dvd_of_dvd_mul_left (Nat.Coprime.symm c1) this
  have d2 : b2.natAbs ∣ b1.natAbs := by
    have : b2.natAbs ∣ t2.natAbs * b1.natAbs := ⟨t1.natAbs, by rw [← hn, Nat.mul_comm]⟩
    exact Nat.Coprime.dvd_of_dvd_mul_left (Nat.Coprime.symm c2) this
  have e := Nat.dvd_antisymm d1 d2
  have eb : b1 = b2 := by omega
  subst eb
  exact ⟨Int.eq_of_mul_eq_mul_right (by omega) h, rfl⟩
theorem Num.one {H H' : Hp} {v v' : V} {t b t' b' : Int} (h : Num H v t b) (h' : Num H' v' t' b') (e : t * b' = t' * b) : t = t' ∧ b = b' := low_one h.pos h'.pos h.cop h'.cop e
/-- the divisor with the base's sign -/
def gsg (t b : Int) : Int := if b < 0 then -((Nat.gcd t.natAbs b.natAbs : Nat) : Int) else ((Nat.gcd t.natAbs b.natAbs : Nat) : Int)
structure Cut (t b s t' b' : Int) : Prop where
  low : Low t b t' b'
  p : 0 < b'
  c : HP.cop t' b'
  ft : t.fdiv s = t'
  fb : b.fdiv s = b'
  one : b = s ↔ b' = 1
  ns : s ≠ 0
  ss : s.natAbs ≤ b.natAbs
theorem fdiv_abs {a b : Int} (h : 0 < b) : (a.fdiv b).natAbs ≤ a.natAbs := by
  rw [Int.fdiv_eq_ediv_of_nonneg a (Int.le_of_lt h)]
  by_cases ha : 0 ≤ a
  · have h1 := Int.ediv_le_self b ha
    have h2 := Int.ediv_nonneg ha (Int.le_of_lt h)
    omega
  · have h1 : a ≤ a / b := (Int.le_ediv_iff_mul_le h).mpr (by
      have := Int.mul_le_mul_of_nonneg_left (show 1 ≤ b by omega) (show 0 ≤ -a by omega)
      rw [Int.neg_mul, Int.neg_mul, Int.mul_one] at this
      omega)
    have h2 := Int.ediv_neg_of_neg_of_pos (show a < 0 by omega) h
    omega
theorem fdiv_mul {a s : Int} (hs : s ≠ 0) : (a * s).fdiv s = a := Int.mul_fdiv_cancel a hs
theorem cut_of {t b : Int} (hb : b ≠ 0) : ∃ t' b', Cut t b (gsg t b) t' b' := by
  have hbn : 0 < b.natAbs := by omega
  have hg : 0 < Nat.gcd t.natAbs b.natAbs := Nat.gcd_pos_of_pos_right _ hbn
  have hgt : ((Nat.gcd t.natAbs b.natAbs : Nat) : Int) ∣ t := Int.ofNat_dvd_left.mpr (Nat.gcd_dvd_left _ _)
  have hgb : ((Nat.gcd t.natAbs b.natAbs : Nat) : Int) ∣ b := Int.ofNat_dvd_left.mpr (Nat.gcd_dvd_right _ _)
  have hcop : Nat.gcd (t.natAbs / Nat.gcd t.natAbs b.natAbs) (b.natAbs / Nat.gcd t.natAbs b.natAbs) = 1 := Nat.coprime_div_gcd_div_gcd hg
  have hle : Nat.gcd t.natAbs b.natAbs ≤ b.natAbs := Nat.gcd_le_right _ hbn
  have hs : gsg t b = ((Nat.gcd t.natAbs b.natAbs : Nat) : Int) ∨ gsg t b = -((Nat.gcd t.natAbs b.natAbs : Nat) : Int) := by
    unfold gsg
    split
    · exact .inr rfl
    · exact .inl rfl
  have hsg : (b < 0 → gsg t b < 0) ∧ (0 < b → 0 < gsg t b) := by
    unfold gsg
    constructor
    · intro h
      rw [if_pos h]
      omega
    · intro h
      rw [if_neg (by omega)]
      omega
  have hsn : (gsg t b).natAbs = Nat.gcd t.natAbs b.natAbs := by
    rcases hs with e | e <;> rw [e]
    · exact Int.natAbs_natCast _
    · rw [Int.natAbs_neg]
      exact Int.natAbs_natCast _
  have hst : gsg t b ∣ t := by
    rcases hs with e | e <;> rw [e]
    · exact hgt
    · exact Int.neg_dvd.mpr hgt
  have hsb : gsg t b ∣ b := by
    rcases hs with e | e <;> rw [e]
    · exact hgb
    · exact Int.neg_dvd.mpr hgb
  generalize gsg t b = s at hs hsg hsn hst hsb
  obtain ⟨t', et⟩ := hst
  obtain ⟨b', eb⟩ := hsb
  have sn : s ≠ 0 := by omega
  have et1 : t = t' * s := by rw [et, Int.mul_comm]
  have eb1 : b = b' * s := by rw [eb, Int.mul_comm]
  have nt : t'.natAbs = t.natAbs / Nat.gcd t.natAbs b.natAbs := by
    have e2 : t.natAbs = t'.natAbs * s.natAbs := by
      have := congrArg Int.natAbs et1
      rw [Int.natAbs_mul] at this
      exact this
    rw [← hsn]
    rw [e2]
    exact (Nat.mul_div_cancel _ (by omega)).symm
  have nb : b'.natAbs = b.natAbs / Nat.gcd t.natAbs b.natAbs := by
    have e2 : b.natAbs = b'.natAbs * s.natAbs := by
      have := congrArg Int.natAbs eb1
      rw [Int.natAbs_mul] at this
      exact this
    rw [← hsn]
    rw [e2]
    exact (Nat.mul_div_cancel _ (by omega)).symm
  have hp : 0 < b' := by
    rcases Int.lt_or_gt_of_ne hb with h | h
    · have h2 := hsg.1 h
      rcases Int.lt_trichotomy b' 0 with z | z | z
      · exfalso
        have := Int.mul_pos_of_neg_of_neg z h2
        omega
      · exfalso
        subst z
        omega
      · exact z
    · have h2 := hsg.2 h
      rcases Int.lt_trichotomy b' 0 with z | z | z
      · exfalso
        have := Int.mul_neg_of_neg_of_pos z h2
        omega
      · exfalso
        subst z
        omega
      · exact z
  refine ⟨t', b', ⟨⟨?_, ?_, ?_⟩, hp, ?_, ?_, ?_, ?_, sn, ?_⟩⟩
  · rw [et1, eb1, Int.mul_assoc, Int.mul_comm s b']
  · rw [nt]
    exact Nat.div_le_self _ _
  · rw [nb]
    exact Nat.div_le_self _ _
  · unfold HP.cop
    rw [nt, nb]
    exact hcop
  · rw [et1]
    exact fdiv_mul sn
  · rw [eb1]
    exact fdiv_mul sn
  · constructor
    · intro e
      rw [e] at eb1
      have : 1 * s = b' * s := by rw [Int.one_mul]; exact eb1
      exact (Int.eq_of_mul_eq_mul_right sn this).symm
    · intro e
      rw [e, Int.one_mul] at eb1
      exact eb1
  · omega

/-! ### the box of a law -/
def Box (H : Hp) (bx : Addr) (n : Int) : Prop := ∃ a b c, H bx = some (.lst [.int a, .int b, .int c]) ∧ 0 ≤ a ∧ 0 ≤ b ∧ b < 2147483629 ∧ 0 ≤ c ∧ c ≤ n
theorem Box.same {H H' : Hp} {bx : Addr} {n : Int} (h : Box H bx n) (s : Same H H') : Box H' bx n := by
  obtain ⟨a, b, c, h1, h2⟩ := h
  exact ⟨a, b, c, s _ _ h1, h2⟩
theorem Box.mono {H : Hp} {bx : Addr} {n m : Int} (h : Box H bx n) (l : n ≤ m) : Box H bx m := by
  obtain ⟨a, b, c, h1, h2, h3, h4, h5, h6⟩ := h
  exact ⟨a, b, c, h1, h2, h3, h4, h5, by omega⟩
theorem Box.ne {H : Hp} {bx a : Addr} {n : Int} {xs : List V} (h : Box H bx n) (e : H a = some (.tup xs)) : a ≠ bx := by
  obtain ⟨_, _, _, h1, _⟩ := h
  exact ne_of e h1 (by intro z; cases z)
theorem Box.fresh {H : Hp} {bx p : Addr} {n : Int} (h : Box H bx n) (np : H p = none) : p ≠ bx := fun z => by
  obtain ⟨_, _, _, h, _⟩ := h
  rw [← z, np] at h
  cases h
theorem Num.go {H H' : Hp} {v : V} {t b n : Int} {bx : Addr} (h : Num H v t b) (B : Box H bx n) (s : Go bx H H') : Num H' v t b := by
  rcases h with h | ⟨a, h1, h2, h3⟩
  · exact .inl h
  · exact .inr ⟨a, h1, s _ _ h2 (B.ne h2), h3⟩

/-! ### readings, step by step -/
section
variable {σ : L2.St} {H : Hp} {Q : VK} {v x y : V} {i : Nat} {ta tb te : TE} {K : PySem.W.Frag}
theorem q_var (h : σ[i]? = some (some v)) (q : Q v H) : tVar i σ H Q := ⟨v, h, q⟩
theorem q_c (q : Q v H) : tC v σ H Q := q
theorem q_op {r : R2} (q : ta σ H fun x H1 => tb σ H1 fun y H2 => r x y H2 Q) : tOp r ta tb σ H Q := q
theorem q_un {r : V → Hp → VK → Prop} (q : ta σ H fun x H1 => r x H1 Q) : tUn r ta σ H Q := q
theorem q_I0 {g : Int → Int → V} {a b : Int} (q : Q (g a b) H) : rI0 g (.int a) (.int b) H Q := ⟨a, b, rfl, rfl, q⟩
theorem q_I {C : Int → Int → Prop} {g : Int → Int → V} {a b : Int} (c : C a b) (q : Q (g a b) H) : rI C g (.int a) (.int b) H Q := ⟨a, b, rfl, rfl, c, q⟩
theorem q_U {g : Int → V} {a : Int} (q : Q (g a) H) : rU g (.int a) H Q := ⟨a, rfl, q⟩
theorem q_test {R : Bool → Hp → Prop} (q : te σ H fun x H' => ∃ k, x = .bl k ∧ R k H') : tTest te σ H R := q
theorem q_B {R : Bool → Hp → Prop} (q : te σ H fun x H' => ∃ k, x = .bl k ∧ R k H') : tB te σ H R := q
theorem q_bl {k : Bool} {R : Bool → Prop} (q : R k) : ∃ k', (V.bl k = .bl k') ∧ R k' := ⟨k, rfl, q⟩
theorem q_not {t : TT} {R : Bool → Hp → Prop} (q : t σ H fun c H1 => R (!c) H1) : tNot t σ H R := q
theorem q_and {t u : TT} {R : Bool → Hp → Prop} (q : t σ H fun c H1 => if c = true then u σ H1 R else R false H1) : tAnd t u σ H R := q
theorem q_or {t u : TT} {R : Bool → Hp → Prop} (q : t σ H fun c H1 => if c = true then R true H1 else u σ H1 R) : tOr t u σ H R := q
theorem q_andV (q : ta σ H fun x H1 => ∃ c, x = .bl c ∧ if c = true then tb σ H1 Q else Q (.bl false) H1) : tAndV ta tb σ H Q := q
theorem q_orV (q : ta σ H fun x H1 => ∃ c, x = .bl c ∧ if c = true then Q (.bl true) H1 else tb σ H1 Q) : tOrV ta tb σ H Q := q
theorem q_notV (q : ta σ H fun x H1 => ∃ c, x = .bl c ∧ Q (.bl (!c)) H1) : tNotV ta σ H Q := q
theorem q_ifE {t : TT} (q : t σ H fun c H1 => if c = true then ta σ H1 Q else tb σ H1 Q) : tIf t ta tb σ H Q := q
theorem q_call {n : Nat} {sp : Sp} {t : TA} (q : t σ H fun vs H1 => vs.length = n ∧ sp vs H1 Q E0) : tCal n sp t σ H Q := q
theorem q_callK {n m np : Nat} {sp : Sp} {dvs : List V} {perm : List Nat} {t tk : TA} (q : t σ H fun vs H1 => tk σ H1 fun zs H2 => vs.length = n ∧ zs.length = m ∧ (pick perm (vs ++ (dvs ++ zs))).length = np ∧ sp (pick perm (vs ++ (dvs ++ zs))) H2 Q E0) : tCalK n m np sp dvs perm t tk σ H Q := q
theorem q_len {n : Nat} {vs : List V} {A : Prop} (h : vs.length = n) (q : A) : vs.length = n ∧ A := ⟨h, q⟩
theorem q_cb {r : List V → Hp → VK → Prop} {t : TA} (q : t σ H fun vs H1 => r vs H1 Q) : tCB r t σ H Q := q
theorem q_cons {t : TA} {R : List V → Hp → Prop} (q : te σ H fun x H1 => t σ H1 fun xs H2 => R (x :: xs) H2) : tCons te t σ H R := q
theorem q_nil {R : List V → Hp → Prop} (q : R [] H) : tNil σ H R := q
theorem q_tup {t : TA} (q : t σ H fun xs H1 => xs.length ≤ sizeLine ∧ ∀ p, H1 p = none → Q (.ref p) (upd H1 p (.tup xs))) : tTup t σ H Q := q
theorem q_lst {t : TA} (q : t σ H fun xs H1 => xs.length ≤ sizeLine ∧ ∀ p, H1 p = none → Q (.ref p) (upd H1 p (.lst xs))) : tLst t σ H Q := q
theorem q_disp {xs : List V} {A : Prop} (h : Nat.ble xs.length 1000 = true) (q : A) : xs.length ≤ sizeLine ∧ A := ⟨Nat.le_of_lt (small1000 (Nat.le_of_ble_eq_true h)), q⟩
theorem q_ntT {A B : Prop} (h : B) : if (!true) = true then A else B := h
theorem q_ntF {A B : Prop} (h : A) : if (!false) = true then A else B := h
theorem q_lenT {a : Addr} {xs : List V} (h : SqT K H a xs) (q : Q (.int xs.length) H) : rLenK K [.ref a] H Q := ⟨_, _, rfl, .inr ⟨xs, h, rfl⟩, q⟩
theorem q_lenL {a : Addr} {xs : List V} (h : SqL K H a xs) (q : Q (.int xs.length) H) : rLenK K [.ref a] H Q := ⟨_, _, rfl, .inl ⟨xs, h, rfl⟩, q⟩
variable {D : Ends} {t1 t2 : TS}
theorem q_seq (q : t1 { D with nx := t2 D } σ H) : tSeq t1 t2 D σ H := q
theorem q_asg {g : TG} (q : te σ H fun x H1 => g x σ H1 D.nx) : tAsg te g D σ H := q
theorem q_name {R : L2.St → Hp → Prop} (q : R (σ.set i (some v)) H) : gName i v σ H R := q
theorem q_if {t : TT} (q : t σ H fun b H1 => if b = true then t1 D σ H1 else t2 D σ H1) : tIfS t t1 t2 D σ H := q
theorem q_ret (q : te σ H D.rt) : tRet te D σ H := q
theorem q_drop (q : te σ H fun _ H1 => D.nx σ H1) : tDrop te D σ H := q
theorem q_next (q : D.nx σ H) : tNext D σ H := q
theorem q_cont (q : D.ct σ H) : tCont D σ H := q
theorem q_brk (q : D.bk σ H) : tBreak D σ H := q
theorem q_par {a b : Nat} {t : TA} (q : t σ H fun vs H1 => ∃ v w, vs = [v, w] ∧ D.nx ((σ.set a (some v)).set b (some w)) H1) : tPar a b t D σ H := q
theorem q_two {v w : V} {R : V → V → Prop} (q : R v w) : ∃ v' w', [v, w] = [v', w'] ∧ R v' w' := ⟨v, w, rfl, q⟩
theorem q_gtup {n : Nat} {t : TGs} {a : Addr} {xs : List V} {R : L2.St → Hp → Prop} (h : SqT K H a xs) (l : xs.length = n) (q : t xs σ H R) : gTup K n t (.ref a) σ H R := ⟨a, xs, rfl, h, l, q⟩
theorem q_gcons {t : TG} {u : TGs} {r : List V} {R : L2.St → Hp → Prop} (q : t v σ H fun σ' H' => u r σ' H' R) : gCons t u (v :: r) σ H R := ⟨v, r, rfl, q⟩
theorem q_gnil {R : L2.St → Hp → Prop} (q : R σ H) : gNil [] σ H R := ⟨rfl, q⟩
theorem q_gsub {ta tb : TE} {t : TSet} {R : L2.St → Hp → Prop} (q : ta σ H fun o H1 => tb σ H1 fun i H2 => t o i v H2 fun H3 => R σ H3) : gSub ta tb t v σ H R := q
theorem q_ixL {p : Addr} {xs : List V} {j : Nat} (h : SqL K H p xs) (e : xs[j]? = some v) (q : Q v H) : rIxL K (.ref p) (.int (j : Int)) H Q := ⟨p, xs, j, v, rfl, rfl, h, atI_nat e, q⟩
theorem q_ixT {p : Addr} {xs : List V} {j : Nat} (h : SqT K H p xs) (e : xs[j]? = some v) (q : Q v H) : rIxT K (.ref p) (.int (j : Int)) H Q := ⟨p, xs, j, v, rfl, rfl, h, atI_nat e, q⟩
theorem q_yes {R : Bool → Hp → Prop} (q : R true H) : tYes σ H R := q
theorem q_chain {r r' : R2} {ta tb tc : TE} (q : ta σ H fun x H1 => tb σ H1 fun y H2 => r x y H2 fun z H3 => ∃ k, z = .bl k ∧
  if k = true then tc σ H3 fun u H4 => r' y u H4 Q else Q (.bl false) H3) : tChain r r' ta tb tc σ H Q := q
theorem q_for {wi : TI} {g : TG} {tb : TS} (q : wi σ H fun J H1 => ∃ W : Nat → Nat → L2.St → Hp → Prop, (∃ m, W 0 m σ H1) ∧ ∀ i m σ H, W i m σ H →
  (J.stop i H ∧ D.nx σ H) ∨ (J.go i H ∧ ∃ N : L2.St → Hp → Prop, (∀ σ' H', N σ' H' → ∃ m', m' < m ∧ W (i + 1) m' σ' H') ∧ ∀ x H', J.yld i H x H' → g x σ H' fun σ2 H2 => tb { D with nx := N, ct := N, bk := D.nx } σ2 H2)) : tFor wi g tb D σ H := q
theorem q_rng {ta : TA} {R : It → Hp → Prop} (q : ta σ H fun vs H1 => ∃ j : Int, vs = [.int j] ∧ -(2 ^ 62) ≤ j ∧ j < 2 ^ 62 ∧ R (Itr 0 j.toNat) H1) : iRng1 ta σ H R := q
theorem q_rng1 {n : Int} {R : It → Prop} (h0 : 0 ≤ n) (h1 : n ≤ 100000) (q : R (Itr 0 n.toNat)) : ∃ j : Int, [V.int n] = [.int j] ∧ -(2 ^ 62) ≤ j ∧ j < 2 ^ 62 ∧ R (Itr 0 j.toNat) := ⟨n, rfl, by omega, by omega, q⟩
theorem q_ilst {tl : TE} {R : It → Hp → Prop} (q : tl σ H fun x H1 => ∃ a, x = .ref a ∧ (∃ xs, SqL K H1 a xs) ∧ R (Itl K a) H1) : iList K tl σ H R := q
theorem q_ilst1 {a : Addr} {xs : List V} {R : It → Prop} (h : SqL K H a xs) (q : R (Itl K a)) : ∃ a', V.ref a = .ref a' ∧ (∃ xs, SqL K H a' xs) ∧ R (Itl K a') := ⟨a, rfl, ⟨xs, h⟩, q⟩
theorem q_L0 {p : Addr} {xs : List V} (h : H p = some (.lst xs)) (e : xs[0]? = some v) (q : Q v H) : rIxL K (.ref p) (.int 0) H Q := q_ixL (j := 0) (SqL.of h) e q
theorem q_L1 {p : Addr} {xs : List V} (h : H p = some (.lst xs)) (e : xs[1]? = some v) (q : Q v H) : rIxL K (.ref p) (.int 1) H Q := q_ixL (j := 1) (SqL.of h) e q
theorem q_L2 {p : Addr} {xs : List V} (h : H p = some (.lst xs)) (e : xs[2]? = some v) (q : Q v H) : rIxL K (.ref p) (.int 2) H Q := q_ixL (j := 2) (SqL.of h) e q
theorem q_T0 {p : Addr} {xs : List V} (h : H p = some (.tup xs)) (e : xs[0]? = some v) (q : Q v H) : rIxT K (.ref p) (.int 0) H Q := q_ixT (j := 0) (SqT.of h) e q
theorem q_T1 {p : Addr} {xs : List V} (h : H p = some (.tup xs)) (e : xs[1]? = some v) (q : Q v H) : rIxT K (.ref p) (.int 1) H Q := q_ixT (j := 1) (SqT.of h) e q
theorem q_T2 {p : Addr} {xs : List V} (h : H p = some (.tup xs)) (e : xs[2]? = some v) (q : Q v H) : rIxT K (.ref p) (.int 2) H Q := q_ixT (j := 2) (SqT.of h) e q
/-- an item at a drawn place -/
theorem q_Lat {p : Addr} {xs : List V} {d : Int} (h : H p = some (.lst xs)) (h0 : 0 ≤ d) (h1 : d < xs.length) (q : ∀ v, v ∈ xs → Q v H) : rIxL K (.ref p) (.int d) H Q := by
  obtain ⟨j, rfl⟩ := Int.eq_ofNat_of_zero_le h0
  have hj : j < xs.length := by omega
  exact q_ixL (SqL.of h) (List.getElem?_eq_getElem hj) (q _ (List.getElem_mem hj))
theorem q_set {p : Addr} {xs : List V} {j : Nat} {R : Hp → Prop} (h : H p = some (.lst xs)) (hj : j < xs.length) (q : R (upd H p (.lst (xs.set j v)))) : rSetL (.ref p) (.int (j : Int)) v H R :=
  ⟨p, xs, j, j, rfl, rfl, h, by unfold ixN; rw [if_pos (by omega), if_pos (by omega)]; simp, q⟩
theorem q_eqT {a b : Addr} {i j : Int} (h : H a = some (.tup [.int i, .int j])) (h' : H b = some (.tup [.int i, .int j])) (q : Q (.bl true) H) : rEqD K (.ref a) (.ref b) H Q :=
  ⟨.tuple [.int i, .int j], .tuple [.int i, .int j], .tup (SqT.of h) (.cons (.int _) (.cons (.int _) .nil)), .tup (SqT.of h') (.cons (.int _) (.cons (.int _) .nil)), rfl, rfl, by
    have e : PyData.eqv (.tuple [.int i, .int j]) (.tuple [.int i, .int j]) = true := SeqAt.eqv_refl _ rfl
    rw [e]
    exact q⟩
theorem q_eqI {i : Int} (q : Q (.bl true) H) : rEqD K (.int i) (.int i) H Q := ⟨.int i, .int i, .int _, .int _, rfl, rfl, by
    have e : PyData.eqv (.int i) (.int i) = true := SeqAt.eqv_refl _ rfl
    rw [e]
    exact q⟩
theorem q_dec {p : Prop} [Decidable p] {A B : Prop} (h : p → A) (h' : ¬ p → B) : if decide p = true then A else B := by
  by_cases z : p
  · rw [if_pos (decide_eq_true z)]
    exact h z
  · rw [if_neg (by rw [decide_eq_false z]; exact Bool.false_ne_true)]
    exact h' z
theorem q_decT {p : Prop} [Decidable p] {A B : Prop} (z : p) (h : A) : if decide p = true then A else B := by
  rw [if_pos (decide_eq_true z)]
  exact h
theorem q_decF {p : Prop} [Decidable p] {A B : Prop} (z : ¬ p) (h : B) : if decide p = true then A else B := by
  rw [if_neg (by rw [decide_eq_false z]; exact Bool.false_ne_true)]
  exact h
theorem q_ndec {p : Prop} [Decidable p] {A B : Prop} (h : ¬ p → A) (h' : p → B) : if (!decide p) = true then A else B := by
  by_cases z : p
  · rw [decide_eq_true z, if_neg (by decide)]
    exact h' z
  · rw [decide_eq_false z, if_pos (by decide)]
    exact h z
theorem q_ndecT {p : Prop} [Decidable p] {A B : Prop} (z : ¬ p) (h : A) : if (!decide p) = true then A else B := by
  rw [decide_eq_false z, if_pos (by decide)]
  exact h
theorem q_ndecF {p : Prop} [Decidable p] {A B : Prop} (z : p) (h : B) : if (!decide p) = true then A else B := by
  rw [decide_eq_true z, if_neg (by decide)]
  exact h
theorem k_ii : kitB "int" "int" = some true := by decide +kernel
theorem k_ib : kitB "int" "bool" = some false := by decide +kernel
theorem k_it : kitB "int" "tuple" = some false := by decide +kernel
theorem k_tt : kitB "tuple" "tuple" = some true := by decide +kernel
theorem k_ti : kitB "tuple" "int" = some false := by decide +kernel
theorem q_gcd {a b : Int} (q : Q (.int ((Nat.gcd a.natAbs b.natAbs : Nat) : Int)) H) : rGcd [.int a, .int b] H Q := ⟨a, b, rfl, q⟩
theorem q_isi {x : V} {n m : String} {b : Bool} (ty : TyX K H x (.type n)) (e : kitB n m = some b) (q : Q (.bl b) H) : rIsi K [x, .ty m] H Q := ⟨x, .ty m, _, _, b, rfl, .ty m, ty, kit_ty e, q⟩
theorem q_ii {i : Int} (q : Q (.bl true) H) : rIsi K [.int i, .ty "int"] H Q := q_isi (.base (.int _)) k_ii q
theorem q_ib {i : Int} (q : Q (.bl false) H) : rIsi K [.int i, .ty "bool"] H Q := q_isi (.base (.int _)) k_ib q
theorem q_it {i : Int} (q : Q (.bl false) H) : rIsi K [.int i, .ty "tuple"] H Q := q_isi (.base (.int _)) k_it q
theorem q_tt {a : Addr} {xs : List V} (h : H a = some (.tup xs)) (q : Q (.bl true) H) : rIsi K [.ref a, .ty "tuple"] H Q := q_isi (.base (.tup h)) k_tt q
theorem q_ti {a : Addr} {xs : List V} (h : H a = some (.tup xs)) (q : Q (.bl false) H) : rIsi K [.ref a, .ty "int"] H Q := q_isi (.base (.tup h)) k_ti q
theorem q_abs {i : Int} (q : Q (.int (if i < 0 then -i else i)) H) : rAbs [.int i] H Q := ⟨i, rfl, q⟩
theorem q_max {i j : Int} (q : Q (.int (if j > i then j else i)) H) : rMax [.int i, .int j] H Q := ⟨i, j, rfl, q⟩
theorem q_min {i j : Int} (q : Q (.int (if j < i then j else i)) H) : rMin [.int i, .int j] H Q := ⟨i, j, rfl, q⟩
theorem q_intb {k : Bool} (q : Q (.int (if k then 1 else 0)) H) : rInt [.bl k] H Q := .inr ⟨k, rfl, q⟩
theorem q_inti {i : Int} (q : Q (.int i) H) : rInt [.int i] H Q := .inl ⟨i, rfl, q⟩
end
end HP

namespace HP
/-! ### the sum by the bases' common part -/
theorem cop_sum {t s be de b : Int} (c1 : cop t b) (hb : be ∣ b) (cb : Nat.Coprime be.natAbs de.natAbs) : Nat.Coprime (t * de + s * be).natAbs be.natAbs := by
  have hp : ∀ p : Nat, p ∣ (t * de + s * be).natAbs → p ∣ be.natAbs → p = 1 := by
    intro p h1 h2
    have i1 : (p : Int) ∣ t * de + s * be := Int.ofNat_dvd_left.mpr h1
    have i2 : (p : Int) ∣ be := Int.ofNat_dvd_left.mpr h2
    have i3 : (p : Int) ∣ s * be := Int.dvd_trans i2 (Int.dvd_mul_left s be)
    have i4 : (p : Int) ∣ t * de := by
      have := Int.dvd_sub i1 i3
      rwa [Int.add_sub_cancel] at this
    have i5 : p ∣ t.natAbs * de.natAbs := by
      rw [← Int.natAbs_mul]
      exact Int.ofNat_dvd_left.mp i4
    have cp : Nat.Coprime p de.natAbs := Nat.Coprime.coprime_dvd_left h2 cb
    have i6 : p ∣ t.natAbs := Nat.Coprime.dvd_of_dvd_mul_right cp i5
    have i7 : p ∣ b.natAbs := Nat.dvd_trans h2 (Int.natAbs_dvd_natAbs.mpr hb)
    have i8 := Nat.dvd_gcd i6 i7
    rw [show Nat.gcd t.natAbs b.natAbs = 1 from c1] at i8
    exact Nat.dvd_one.mp i8
  exact hp _ (Nat.gcd_dvd_left _ _) (Nat.gcd_dvd_right _ _)
theorem fdiv_of {a s q : Int} (hs : s ≠ 0) (h : a = s * q) : a.fdiv s = q := by
  rw [h, Int.mul_comm]
  exact fdiv_mul hs
structure AddM (t b s d g n c tt bb : Int) : Prop where
  g0 : 0 < g
  gb : g.natAbs ≤ b.natAbs
  c0 : 0 < c
  cg : c.natAbs ≤ g.natAbs
  p : 0 < bb
  cp : cop tt bb
  eq : tt * (b * d) = (t * d + s * b) * bb
theorem add_math {t b s d : Int} (hb : 0 < b) (hd : 0 < d) (c1 : cop t b) (c2 : cop s d) :
    AddM t b s d ((Nat.gcd b.natAbs d.natAbs : Nat) : Int) (t * d.fdiv ((Nat.gcd b.natAbs d.natAbs : Nat) : Int) + s * b.fdiv ((Nat.gcd b.natAbs d.natAbs : Nat) : Int))
      ((Nat.gcd (t * d.fdiv ((Nat.gcd b.natAbs d.natAbs : Nat) : Int) + s * b.fdiv ((Nat.gcd b.natAbs d.natAbs : Nat) : Int)).natAbs (((Nat.gcd b.natAbs d.natAbs : Nat) : Int)).natAbs : Nat) : Int)
      ((t * d.fdiv ((Nat.gcd b.natAbs d.natAbs : Nat) : Int) + s * b.fdiv ((Nat.gcd b.natAbs d.natAbs : Nat) : Int)).fdiv ((Nat.gcd (t * d.fdiv ((Nat.gcd b.natAbs d.natAbs : Nat) : Int) + s * b.fdiv ((Nat.gcd b.natAbs d.natAbs : Nat) : Int)).natAbs (((Nat.gcd b.natAbs d.natAbs : Nat) : Int)).natAbs : Nat) : Int))
      (b.fdiv ((Nat.gcd b.natAbs d.natAbs : Nat) : Int) * d.fdiv ((Nat.gcd (t * d.fdiv ((Nat.gcd b.natAbs d.natAbs : Nat) : Int) + s * b.fdiv ((Nat.gcd b.natAbs d.natAbs : Nat) : Int)).natAbs (((Nat.gcd b.natAbs d.natAbs : Nat) : Int)).natAbs : Nat) : Int)) := by
  have hbn : 0 < b.natAbs := by omega
  have hgn : 0 < Nat.gcd b.natAbs d.natAbs := Nat.gcd_pos_of_pos_left _ hbn
  have cc := Nat.coprime_div_gcd_div_gcd hgn
  have hgb : ((Nat.gcd b.natAbs d.natAbs : Nat) : Int) ∣ b := Int.ofNat_dvd_left.mpr (Nat.gcd_dvd_left _ _)
  have hgd : ((Nat.gcd b.natAbs d.natAbs : Nat) : Int) ∣ d := Int.ofNat_dvd_left.mpr (Nat.gcd_dvd_right _ _)
  have hle : Nat.gcd b.natAbs d.natAbs ≤ b.natAbs := Nat.gcd_le_left _ hbn
  generalize Nat.gcd b.natAbs d.natAbs = G at *
  obtain ⟨be, eb⟩ := hgb
  obtain ⟨de, ed⟩ := hgd
  have hG : (0 : Int) < (G : Int) := by omega
  have hGn : ((G : Int)) ≠ 0 := by omega
  have hbe : 0 < be := by
    rw [eb] at hb
    exact Int.pos_of_mul_pos_right hb hG
  have hde : 0 < de := by
    rw [ed] at hd
    exact Int.pos_of_mul_pos_right hd hG
  have cbd : Nat.Coprime be.natAbs de.natAbs := by
    have e1 : b.natAbs = G * be.natAbs := by
      have := congrArg Int.natAbs eb
      rwa [Int.natAbs_mul, Int.natAbs_natCast] at this
    have e2 : d.natAbs = G * de.natAbs := by
      have := congrArg Int.natAbs ed
      rwa [Int.natAbs_mul, Int.natAbs_natCast] at this
    rwa [e1, e2, Nat.mul_div_cancel_left _ hgn, Nat.mul_div_cancel_left _ hgn] at cc
  rw [fdiv_of hGn eb, fdiv_of hGn ed]
  have n1 := cop_sum (s := s) c1 ⟨(G : Int), by rw [eb, Int.mul_comm]⟩ cbd
  have n2 : Nat.Coprime (t * de + s * be).natAbs de.natAbs := by
    have := cop_sum (s := t) c2 ⟨(G : Int), by rw [ed, Int.mul_comm]⟩ (Nat.Coprime.symm cbd)
    rwa [Int.add_comm] at this
  generalize hN : t * de + s * be = N at n1 n2 ⊢
  have hgn2 : 0 < ((G : Int)).natAbs := by omega
  have hcn : 0 < Nat.gcd N.natAbs ((G : Int)).natAbs := Nat.gcd_pos_of_pos_right _ hgn2
  have cc2 := Nat.coprime_div_gcd_div_gcd hcn
  have hcN : ((Nat.gcd N.natAbs ((G : Int)).natAbs : Nat) : Int) ∣ N := Int.ofNat_dvd_left.mpr (Nat.gcd_dvd_left _ _)
  have hcG : ((Nat.gcd N.natAbs ((G : Int)).natAbs : Nat) : Int) ∣ (G : Int) := Int.ofNat_dvd_left.mpr (Nat.gcd_dvd_right _ _)
  have hle2 : Nat.gcd N.natAbs ((G : Int)).natAbs ≤ ((G : Int)).natAbs := Nat.gcd_le_right _ hgn2
  generalize Nat.gcd N.natAbs ((G : Int)).natAbs = c at *
  obtain ⟨nu, en⟩ := hcN
  obtain ⟨ga, eg⟩ := hcG
  have hc : (0 : Int) < (c : Int) := by omega
  have hcn0 : ((c : Int)) ≠ 0 := by omega
  have hga : 0 < ga := by
    rw [eg] at hG
    exact Int.pos_of_mul_pos_right hG hc
  have ed2 : d = (c : Int) * (ga * de) := by
    rw [ed, eg, Int.mul_assoc]
  rw [fdiv_of hcn0 en, fdiv_of hcn0 ed2]
  have n3 : Nat.Coprime nu.natAbs ga.natAbs := by
    have e1 : N.natAbs = c * nu.natAbs := by
      have := congrArg Int.natAbs en
      rwa [Int.natAbs_mul, Int.natAbs_natCast] at this
    have e2 : ((G : Int)).natAbs = c * ga.natAbs := by
      have := congrArg Int.natAbs eg
      rwa [Int.natAbs_mul, Int.natAbs_natCast] at this
    rwa [e1, e2, Nat.mul_div_cancel_left _ (by omega), Nat.mul_div_cancel_left _ (by omega)] at cc2
  have dn : nu.natAbs ∣ N.natAbs := Int.natAbs_dvd_natAbs.mpr ⟨(c : Int), by rw [en, Int.mul_comm]⟩
  refine ⟨hG, by omega, hc, by omega, Int.mul_pos hbe (Int.mul_pos hga hde), ?_, ?_⟩
  · unfold cop
    rw [Int.natAbs_mul, Int.natAbs_mul]
    exact Nat.Coprime.mul_right (Nat.Coprime.coprime_dvd_left dn n1) (Nat.Coprime.mul_right n3 (Nat.Coprime.coprime_dvd_left dn n2))
  · have e3 : t * d + s * b = (G : Int) * N := by
      rw [← hN, eb, ed, Int.mul_add]
      congr 1 <;> ac_rfl
    rw [e3, en, eb, ed, eg]
    ac_rfl
theorem low_of {T B t' b' : Int} (hB : B ≠ 0) (p : 0 < b') (c : cop t' b') (h : t' * B = T * b') : Low T B t' b' := by
  have hn : t'.natAbs * B.natAbs = T.natAbs * b'.natAbs := by
    rw [← Int.natAbs_mul, ← Int.natAbs_mul, h]
  have d1 : b'.natAbs ∣ B.natAbs := by
    have : b'.natAbs ∣ t'.natAbs * B.natAbs := ⟨T.natAbs, by rw [hn, Nat.mul_comm]⟩
    exact Nat.Coprime.dvd_of_dvd_mul_left (Nat.Coprime.symm c) this
  obtain ⟨k, hk⟩ := d1
  have hk0 : 0 < k := by
    rcases Nat.eq_zero_or_pos k with z | z
    · subst z
      omega
    · exact z
  have hT : t'.natAbs * k = T.natAbs := by
    rw [hk] at hn
    have : t'.natAbs * k * b'.natAbs = T.natAbs * b'.natAbs := by
      rw [← hn]
      ac_rfl
    exact Nat.eq_of_mul_eq_mul_right (by omega) this
  refine ⟨h, ?_, ?_⟩
  · rw [← hT]
    exact Nat.le_mul_of_pos_right _ hk0
  · rw [hk]
    exact Nat.le_mul_of_pos_right _ hk0
end HP
namespace HP
open PySem PySem.Spec PyProof.Rows L2
/-! ### what each def promises -/
def spIsInt : Sp := fun vs H Q _ => ∃ i, vs = [.int i] ∧ Q (.bl true) H
def spIsNum : Sp := fun vs H Q _ => ∃ v t b, vs = [v] ∧ Num H v t b ∧ Q (.bl true) H
def spNeed : Sp := fun vs H Q _ => ∃ v t b, vs = [v] ∧ Num H v t b ∧ Q .non H
def spPair : Sp := fun vs H Q _ => ∃ v t b, vs = [v] ∧ Num H v t b ∧ ∀ p H', Same H H' → H' p = some (.tup [.int t, .int b]) → Q (.ref p) H'
def spLow : Sp := fun vs H Q _ => ∃ t b, vs = [.int t, .int b] ∧ b ≠ 0 ∧ Bt 8000 t ∧ Bt 8000 b ∧ ∀ v H' t' b', Same H H' → Num H' v t' b' → Low t b t' b' → Q v H'
def spNeg : Sp := fun vs H Q _ => ∃ v t b, vs = [v] ∧ Num H v t b ∧ ∀ v' H', Same H H' → Num H' v' (-t) b → Q v' H'
def spLess : Sp := fun vs H Q _ => ∃ x y t b s d, vs = [x, y] ∧ Num H x t b ∧ Num H y s d ∧ Bt 4000 t ∧ Bt 4000 b ∧ Bt 4000 s ∧ Bt 4000 d ∧ ∀ H', Same H H' → Q (.bl (decide (t * d < s * b))) H'
def spAdd : Sp := fun vs H Q _ => ∃ x y t b s d, vs = [x, y] ∧ Num H x t b ∧ Num H y s d ∧ Bt 2000 t ∧ Bt 2000 b ∧ Bt 2000 s ∧ Bt 2000 d ∧ ∀ v H' t' b', Same H H' → Num H' v t' b' → Low (t * d + s * b) (b * d) t' b' → Q v H'
def spSub : Sp := fun vs H Q _ => ∃ x y t b s d, vs = [x, y] ∧ Num H x t b ∧ Num H y s d ∧ Bt 2000 t ∧ Bt 2000 b ∧ Bt 2000 s ∧ Bt 2000 d ∧ ∀ v H' t' b', Same H H' → Num H' v t' b' → Low (t * d - s * b) (b * d) t' b' → Q v H'
def spMul : Sp := fun vs H Q _ => ∃ x y t b s d, vs = [x, y] ∧ Num H x t b ∧ Num H y s d ∧ Bt 2000 t ∧ Bt 2000 b ∧ Bt 2000 s ∧ Bt 2000 d ∧ ∀ v H' t' b', Same H H' → Num H' v t' b' → Low (t * s) (b * d) t' b' → Q v H'
def spOver : Sp := fun vs H Q _ => ∃ x y t b s d, vs = [x, y] ∧ Num H x t b ∧ Num H y s d ∧ s ≠ 0 ∧ Bt 2000 t ∧ Bt 2000 b ∧ Bt 2000 s ∧ Bt 2000 d ∧ ∀ v H' t' b', Same H H' → Num H' v t' b' → Low (t * d) (b * s) t' b' → Q v H'
/-! by the turn's number -/
def rt (k t b s d : Int) : Int := if k = 0 then t * d + s * b else if k = 1 then t * d - s * b else if k = 2 then t * s else t * d
def rb (k b s d : Int) : Int := if k = 3 then b * s else b * d
def spTold : Sp := fun vs H Q _ => ∃ k x y t b s d bn, vs = [.int k, x, y, .bl bn] ∧ Num H x t b ∧ Num H y s d ∧ (k = 0 ∨ k = 1 ∨ k = 2 ∨ (k = 3 ∧ s ≠ 0)) ∧ Bt 1000 t ∧ Bt 1000 b ∧ Bt 1000 s ∧ Bt 1000 d ∧ ∀ v H' t' b', Same H H' → Num H' v t' b' → Low (rt k t b s d) (rb k b s d) t' b' → Q v H'
def spDue2 : Sp := fun vs H Q _ => ∃ k x y t b s d, vs = [.int k, x, y] ∧ Num H x t b ∧ Num H y s d ∧ (k = 0 ∨ k = 1 ∨ k = 2 ∨ (k = 3 ∧ s ≠ 0)) ∧ Bt 1000 t ∧ Bt 1000 b ∧ Bt 1000 s ∧ Bt 1000 d ∧ ∀ v H' t' b', Same H H' → Num H' v t' b' → Low (rt k t b s d) (rb k b s d) t' b' → Q v H'
def spTwo : Sp := fun vs H Q _ => ∃ x y t b s d bn, vs = [x, y, .bl bn] ∧ Num H x t b ∧ Num H y s d ∧ Bt 200 t ∧ Bt 200 b ∧ Bt 200 s ∧ Bt 200 d ∧ ∀ H', Same H H' → Q (.bl true) H'
def spMadeR : Sp := fun vs H Q _ => ∃ bx n, vs = [.ref bx] ∧ Box H bx n ∧ n < 700000 ∧ ∀ H', Go bx H H' → Box H' bx (n + 300) → Q (.bl true) H'
theorem rb_ne {k b s d : Int} (hb : 0 < b) (hd : 0 < d) (h : k = 0 ∨ k = 1 ∨ k = 2 ∨ (k = 3 ∧ s ≠ 0)) : rb k b s d ≠ 0 := by
  unfold rb
  split
  · rename_i e
    rcases h with h | h | h | ⟨_, h⟩
    · omega
    · omega
    · omega
    · exact Int.mul_ne_zero (by omega) h
  · exact Int.mul_ne_zero (by omega) (by omega)
theorem rt_bt {n : Nat} {k0 t0 b0 s0 d0 : Int} (h1 : Bt n t0) (h2 : Bt n b0) (h3 : Bt n s0) (h4 : Bt n d0) : Bt (4 * n + 1) (rt k0 t0 b0 s0 d0) ∧ Bt (4 * n + 1) (rb k0 b0 s0 d0) := by
  have e1 := (h1.mul h4).add (h3.mul h2)
  have e2 := (h1.mul h4).sub (h3.mul h2)
  constructor
  · unfold rt
    split
    · exact e1.mono (by omega)
    · split
      · exact e2.mono (by omega)
      · split
        · exact (h1.mul h3).mono (by omega)
        · exact (h1.mul h4).mono (by omega)
  · unfold rb
    split
    · exact (h2.mul h3).mono (by omega)
    · exact (h2.mul h4).mono (by omega)
def sgn (t : Int) : Int := if t < 0 then -1 else if 0 < t then 1 else 0
def spSign : Sp := fun vs H Q _ => ∃ v t b, vs = [v] ∧ Num H v t b ∧ ∀ H', Same H H' → Q (.int (sgn t)) H'
def spBare : Sp := fun vs H Q _ => ∃ v t b, vs = [v] ∧ Num H v t b ∧ ∀ v' H', Same H H' → Num H' v' (if t < 0 then -t else t) b → Q v' H'
def flo (t b c d : Int) : Int := (t * d).fdiv (b * c) * c
def spFloor : Sp := fun vs H Q _ => ∃ x y t b c d, vs = [x, y] ∧ Num H x t b ∧ Num H y c d ∧ 0 < c ∧ Bt 1000 t ∧ Bt 1000 b ∧ Bt 1000 c ∧ Bt 1000 d ∧ ∀ v H' t' b', Same H H' → Num H' v t' b' → Low (flo t b c d) d t' b' → Q v H'
theorem low_eq {x y t1 b1 t2 b2 : Int} (L1 : Low x y t1 b1) (L2 : Low x y t2 b2) (hy : y ≠ 0) : t1 * b2 = t2 * b1 := by
  have h1 := L1.eq
  have h2 := L2.eq
  refine Int.eq_of_mul_eq_mul_right hy ?_
  rw [Int.mul_assoc, Int.mul_comm b2 y, ← Int.mul_assoc, h1, Int.mul_assoc x b1 b2, Int.mul_comm b1 b2, ← Int.mul_assoc x b2 b1, ← h2, Int.mul_assoc t2 y b1, Int.mul_comm y b1, ← Int.mul_assoc]
/-- the floor of a multiple is it -/
theorem flo_self {c d m t b t' b' : Int} (hb : 0 < b) (hd : 0 < d) (hc : 0 < c) (h : t * d = c * m * b) (h' : t' * d = flo t b c d * b') : t' * b = t * b' := by
  have e : flo t b c d = c * m := by
    unfold flo
    rw [h, show c * m * b = m * (b * c) by rw [Int.mul_comm c m, Int.mul_assoc, Int.mul_comm c b], Int.mul_fdiv_cancel m (by have := Int.mul_pos hb hc; omega), Int.mul_comm]
  rw [e] at h'
  refine Int.eq_of_mul_eq_mul_right (show d ≠ 0 by omega) ?_
  rw [Int.mul_assoc, Int.mul_comm b d, ← Int.mul_assoc, h', Int.mul_assoc t b' d, Int.mul_comm b' d, ← Int.mul_assoc, h, Int.mul_assoc, Int.mul_comm b' b, ← Int.mul_assoc]
theorem num_nz {H : Hp} {v : V} {b : Int} {a : Addr} (h : Num H v 0 b) (e : v = .ref a) : False := by
  rcases h with ⟨h, _⟩ | ⟨_, _, _, h1, h2⟩
  · rw [h] at e
    cases e
  · unfold HP.cop at h2
    have : Nat.gcd (0 : Int).natAbs b.natAbs = b.natAbs := Nat.gcd_zero_left _
    omega
theorem eqv_int (i j : Int) : PyData.eqv (.int i) (.int j) = decide (i = j) := by
  by_cases h : i = j
  · subst h
    rw [decide_eq_true rfl]
    exact SeqAt.eqv_refl _ rfl
  · rw [decide_eq_false h]
    simp [PyData.eqv, h]
theorem q_num0 {K : PySem.W.Frag} {H : Hp} {Q : VK} {v : V} {t b : Int} (N : Num H v t b) (q : Q (.bl (decide (t = 0))) H) : rEqD K v (.int 0) H Q := by
  rcases N with ⟨rfl, rfl⟩ | ⟨a, rfl, ha, hb, hc⟩
  · exact ⟨.int t, .int 0, .int _, .int _, rfl, rfl, by rw [eqv_int]; exact q⟩
  · refine ⟨.tuple [.int t, .int b], .int 0, .tup (SqT.of ha) (.cons (.int _) (.cons (.int _) .nil)), .int _, rfl, rfl, ?_⟩
    have e : decide (t = 0) = false := decide_eq_false fun z => by
      subst z
      exact num_nz (.inr ⟨a, rfl, ha, hb, hc⟩) rfl
    rw [e] at q
    have e2 : PyData.eqv (.tuple [.int t, .int b]) (.int 0) = false := by simp [PyData.eqv]
    rw [e2]
    exact q
theorem q_num0n {K : PySem.W.Frag} {H : Hp} {Q : VK} {v : V} {t b : Int} (N : Num H v t b) (q : Q (.bl (!decide (t = 0))) H) : rNeD K v (.int 0) H Q := by
  obtain ⟨d, e, h1, h2, h3, h4, h5⟩ := q_num0 (K := K) (Q := fun x H' => ∃ c, x = .bl c ∧ Q (.bl (!c)) H') N ⟨_, rfl, q⟩
  obtain ⟨c, e1, h6⟩ := h5
  cases e1
  exact ⟨d, e, h1, h2, h3, h4, h6⟩
theorem q_isint {i : Int} {H : Hp} {Q : VK} {E : XK} (q : Q (.bl true) H) : spIsInt [.int i] H Q E := ⟨i, rfl, q⟩
/-! the law's own -/
def spCell (K : PySem.W.Frag) : Sp := fun vs H Q _ => ∃ (a : Addr) (ns : List Int) (k : Nat), vs = [.ref a, .int (k : Int)] ∧ SqL K H a (ns.map V.int) ∧ k < 1000 ∧ ∀ x, Q (.int x) H
def spBox : Sp := fun vs H Q _ => ∃ x, vs = [.int x] ∧ ∀ p a b, H p = none → 0 ≤ a → 0 ≤ b → b < 2147483629 → Q (.ref p) (upd H p (.lst [.int a, .int b, .int 0]))
def spTake : Sp := fun vs H Q _ => ∃ bx m n, vs = [.ref bx, .int m] ∧ Box H bx n ∧ 0 < m ∧ Bt 300 m ∧ n < 1000000 ∧ ∀ d H', 0 ≤ d → d < m → Go bx H H' → Box H' bx (n + 1) → Q (.int d) H'
def spFar : Sp := fun vs H Q _ => ∃ bx n, vs = [.ref bx] ∧ Box H bx n ∧ n < 900000 ∧ ∀ x H', Bt 110 x → Go bx H H' → Box H' bx (n + 30) → Q (.int x) H'
def spDrawn : Sp := fun vs H Q _ => ∃ bx n, vs = [.ref bx] ∧ Box H bx n ∧ n < 800000 ∧ ∀ v t b H', Num H' v t b → Bt 120 t → Bt 120 b → Go bx H H' → Box H' bx (n + 100) → Q v H'
def spIs : Sp := fun vs H Q _ => ∃ x y t b, vs = [x, y] ∧ Num H x t b ∧ Num H y t b ∧ ∀ H', Same H H' → Q (.bl true) H'
def spIs0 : Sp := fun vs H Q _ => ∃ i, vs = [.int i, .int i] ∧ Q (.bl true) H
def spNear : Sp := fun vs H Q _ => ∃ bx n v t b, vs = [.ref bx, v] ∧ Box H bx n ∧ Num H v t b ∧ Bt 120 t ∧ Bt 120 b ∧ n < 800000 ∧ ∀ v' t' b' H', Num H' v' t' b' → Bt 140 t' → Bt 140 b' → Go bx H H' → Box H' bx (n + 100) → Q v' H'
def spOneR : Sp := fun vs H Q _ => ∃ v t b, vs = [v] ∧ Num H v t b ∧ Bt 140 t ∧ Bt 140 b ∧ ∀ H', Same H H' → Q (.bl true) H'
def spLaw (K : PySem.W.Frag) : Sp := fun vs H Q _ => ∃ (a : Addr) (ns : List Int), vs = [.ref a] ∧ SqL K H a (ns.map V.int) ∧ ns.length ≤ 63 ∧ ∀ H', Q (.bl true) H'
def spStepsR : Sp := fun vs H Q _ => ∃ bx n v t b, vs = [.ref bx, v] ∧ Box H bx n ∧ Num H v t b ∧ Bt 140 t ∧ Bt 140 b ∧ n < 700000 ∧ ∀ H', Go bx H H' → Box H' bx (n + 200) → Q (.bl true) H'
end HP
/-! ### a def whose body wants that nothing is being shown -/
namespace HP
open PySem PySem.Spec PyProof.Rows L2
structure FnG (P : Program) (w : World) (K : PySem.W.Frag) (mg : Str → Option Value) (base : Heap) (k : Nat) (f : Addr) (fd : FuncData) (ps : List Str) (sp : Sp) : Prop where
  len : ∀ vs H Q E, sp vs H Q E → vs.length = ps.length
  run : ∀ (A : Around) (fs : List Env) (s : Shared) (H : Hp) (ar : Args) (us : List Value) (vs : List V) (Q : VK) (E : XK), A.guards = some [] → Room k A → Env0 P w K mg base A fs s H → BindsTo s fd ar (ps.zip us) → Vals vs us → sp vs H Q E →
    codeAny (model P w) A (.call (.ref f) ar) (CR CX0 fs P w H s Q E) s
section
variable {P : Program} {w : World} {K : PySem.W.Frag} {mg : Str → Option Value} {base : Heap}
theorem fnG {x : Str} {st : Stmt} {f : Addr} {fd : FuncData} {N ps : List Str} {k : Nat} {sp : Sp} (F : Fun K x x st f fd) (S : FnScope N ps (defScope st))
    (hb : ∀ (cdv : Value) (A : Around) (fs : List Env) (s : Shared) (H : Hp) (vs : List V) (Q : VK) (E : XK), (A.deeper (envOfC x (defScope st) s.heap.objs.size f cdv)).guards = some [] → Room k (A.deeper (envOfC x (defScope st) s.heap.objs.size f cdv)) → sp vs H Q E →
      ∃ t, PSs (cxOf CX0 P w K mg base N x (defScope st) f cdv A fs s H E).nox (defBody st) t ∧ t { nx := fun _ H' => Q .non H', rt := Q } (start N vs) H) : FnG P w K mg base (k + 1) f fd ps (spN ps.length sp) := by
  obtain ⟨oc, od, kV, doc, pm, an, cdv, ct, osl, rfl, lk, hcd⟩ := F.ex
  refine ⟨fun _ _ _ _ h => h.1, ?_⟩
  intro A fs s H ar us vs Q E hgd hroom env0 bnd rel want
  have inK : K.In s.heap := env0.mod.kin.keeps (fun b o e => (env0.bs b o e).1)
  have noLim : s.heap.NoLimit := env0.mod.nolimit.keeps (fun b o e => (env0.bs b o e).1)
  have params : ∀ y ∈ ps.zip us, (defScope st).names.lookup y.1 = some .local ∨ ((defScope st).names.lookup y.1 = some .cell ∧ ((cellsFrom (s.heap.objs.size + 1) (defScope st).names []).lookup y.1).isSome = true) := by
    rintro ⟨nm, v⟩ hy
    cases S.par nm (List.of_mem_zip hy).1 with
    | inl q => exact Or.inl q
    | inr q => exact Or.inr ⟨q, PySem.W.cellsFrom_some _ _ _ (Or.inl q)⟩
  refine codeAny_call_function hroom.depth (inK _ _ lk) rfl S.co S.gen rfl (PySem.W.codeRec_of inK hcd) (bnd _ _ _ _ ?_)
  refine wpAny_newFunctionEnv_cells S.kind params (fun env eqn s1 inCall => ?_)
  subst eqn
  refine ⟨noLim.keeps inCall.toInCall.keep, codeAny_func ?_⟩
  obtain ⟨t, body, goal⟩ := hb cdv A fs s H vs Q E hgd (hroom.deeper _) want.2
  have J : Inv (cxOf CX0 P w K mg base N x (defScope st) f cdv A fs s H E) [] (start N vs) H s1 := inv_start S hroom.hd env0 want.1 rel inCall
  refine wpAny_mono (body.nox.run [] s1 (start N vs) H _ J goal) ?_ (fun _ _ done => done)
  intro fl s2 done
  cases fl with
  | ret u =>
    obtain ⟨v, σ2, H2, J2, rv, q⟩ := done
    exact ⟨v, H2, J2.os, J2.bare, J2.base, J2.hok, rv, q⟩
  | next =>
    obtain ⟨σ2, H2, J2, q⟩ := done
    exact ⟨V.non, H2, J2.os, J2.bare, J2.base, J2.hok, rfl, q⟩
  | brk => exact absurd done (fun ⟨_, _, _, q⟩ => q)
  | cont => exact absurd done (fun ⟨_, _, _, q⟩ => q)
end
/-- a law's call, where the def is walked under the caller alone -/
theorem callG {P : Program} {w : World} {K : PySem.W.Frag} {mg mb : Str → Option Value} {k : Nat} {fa a : Addr} {fd : FuncData} {x : Str} {sp : Sp} {s : Shared} {vs : List Value} {ns : List Int}
    (inK : K.In s.heap) (glob : s.heap.Ns mainGlobals mg) (blt : s.heap.Ns builtinsNs mb) (bltx : ∀ y : Str, y ≠ "__name__" → mb y = bootBuiltins y) (lim : s.heap.NoLimit) (gens : s.gens = #[])
    (obj : s.heap.get? a = some { cls := .type "list", data := .seq vs.toArray }) (ivs : IntsAre vs ns) (few : ns.length ≤ sizeLine) (room : Room k callerA)
    (F : ∀ base : Heap, K.In base → base.Ns mainGlobals mg → FnG P w K mg base k fa fd [x] sp) (bnd : ∀ (s : Shared) (u : Value), BindsTo s fd ⟨[u], []⟩ [(x, u)])
    (want : ∀ H : Hp, Only H → SqL K H a (ns.map V.int) → sp [.ref a] H (fun v _ => v = .bl true) fun _ _ _ => False) :
    codeAny (model P w) callerA (.call (.ref fa) ⟨[.ref a], []⟩) (fun r s' => r = .ok (.ret (.bool true)) ∧ OldK s.heap s'.heap ∧ s'.os = s.os ∧ AllBare s'.gens) s := by
  have rel := vals_ints ivs
  have len := ivs.length
  suffices step : ∀ H : Hp, Only H → SqL K H a (ns.map V.int) → HOk P w H s.heap → (∀ b u, H b = some u → b = a ∧ K.lookup a = none) →
      codeAny (model P w) callerA (.call (.ref fa) ⟨[.ref a], []⟩) (fun r s' => r = .ok (.ret (.bool true)) ∧ OldK s.heap s'.heap ∧ s'.os = s.os ∧ AllBare s'.gens) s by
    cases hk : K.lookup a with
    | some o =>
      have e := inK a o hk
      rw [obj] at e
      cases e
      exact step (fun _ => none) (fun _ => Or.inl rfl) (Or.inr ⟨_, vs.toArray, _, hk, rfl, rfl, rfl, by rw [List.size_toArray, len]; exact few, by simpa using rel⟩) (fun b u z => nomatch (show (none : Option HO) = some u from z)) (fun b u z => nomatch (show (none : Option HO) = some u from z))
    | none =>
      have only : ∀ b u, (if b = a then some (HO.frz { cls := .type "list", data := .seq vs.toArray } (.lst (ns.map V.int))) else none) = some u → b = a ∧ u = HO.frz { cls := .type "list", data := .seq vs.toArray } (.lst (ns.map V.int)) := by
        intro b u z
        split at z
        · rename_i hb
          exact ⟨hb, (Option.some.inj z).symm⟩
        · cases z
      refine step (fun b => if b = a then some (.frz { cls := .type "list", data := .seq vs.toArray } (.lst (ns.map V.int))) else none) (fun b => ?_) (Or.inl (Or.inr ⟨{ cls := .type "list", data := .seq vs.toArray }, if_pos rfl⟩)) (fun b u z => ?_) (fun b u z => ⟨(only b u z).1, hk⟩)
      · by_cases hb : b = a
        · exact Or.inr ⟨_, _, if_pos hb⟩
        · exact Or.inl (if_neg hb)
      · obtain ⟨rfl, rfl⟩ := only b u z
        exact ⟨obj, by rw [List.length_map]; exact few, vs, _, rel, obj⟩
  intro H ho hs hok only
  have fresh : ∀ {b : Addr} {o : Obj} {es : Array DictEntry} {n : Nat}, s.heap.get? b = some o → o.data = .dict es n → H b = none := by
    intro b o es n e d
    cases q : H b with
    | none => rfl
    | some u =>
      obtain ⟨rfl, _⟩ := only b u q
      rw [obj] at e
      cases e
      exact nomatch (show Data.seq vs.toArray _ = Data.dict es n from d)
  have hid : ∀ {b : Addr} {m : Str → Option Value}, s.heap.Ns b m → (hidT s.heap H).Ns b m := by
    rintro b m ⟨o, es, n, e, d, r⟩
    exact ⟨o, es, n, hidT_get e (fresh e d), d, r⟩
  have inKb : K.In (hidT s.heap H) := by
    intro b o e
    refine hidT_get (inK b o e) ?_
    cases q : H b with
    | none => rfl
    | some u =>
      obtain ⟨rfl, hk⟩ := only b u q
      rw [hk] at e
      cases e
  have md : Mod K mg (hidT s.heap H) := ⟨inKb, hid glob, ⟨mb, hid blt, bltx⟩, by
    obtain ⟨mc, h1, h2⟩ := lim
    exact ⟨mc, hid h1, h2⟩⟩
  have env0 : Env0 P w K mg (hidT s.heap H) callerA [] s H := ⟨rfl, md, fun b o e => of_hidT e, Nat.le_of_eq (hidT_size _ _), trivial, fun b hb => absurd (show b ∈ ([] : List Addr) from hb) List.not_mem_nil, hok, .of_eq gens⟩
  refine codeAny_mono ((F _ inKb (hid glob)).run callerA [] s H ⟨[.ref a], []⟩ [.ref a] [.ref a] _ _ rfl room env0 (bnd s (.ref a)) (.cons rfl .nil) (want H ho hs)) ?_
  intro r s' done
  match r, done with
  | .error _, z => exact False.elim z
  | .ok .next, z => exact False.elim z
  | .ok .brk, z => exact False.elim z
  | .ok .cont, z => exact False.elim z
  | .ok (.ret u), ⟨v, H', os, bare, un, hok', rv, q⟩ =>
    have q' : v = .bl true := q
    subst q'
    obtain rfl : u = Value.bool true := rv
    refine ⟨rfl, OldK.of_keep (fun b o e => ?_), os, bare⟩
    cases q : H b with
    | none => exact un.keep b o e q (fun z => absurd (show b ∈ ([] : List Addr) from z) List.not_mem_nil) List.not_mem_nil
    | some u =>
      cases ho b with
      | inl z => rw [q] at z; cases z
      | inr z =>
        obtain ⟨ob, xs, z⟩ := z
        have e1 := (hok b _ z).1
        have e2 := (hok' b _ (un.frzs b ob _ z)).1
        rw [e] at e1
        cases e1
        exact e2
/-- the goal that k_head leaves, by such a promise -/
theorem walkG {l : PySem.W.OpenLaw} {n k : Nat} {q : Program} {loose : List Str} {XP : (Str → Option Value) → Heap → Prop} {YP : World → Heap → Prop} {d : DefRec} {K : Params → PySem.W.Frag} {sp : World → Sp} {x : Str}
    (most : l.most = some n) (few : n ≤ sizeLine) (nodef : d.params.defaults = []) (room : Room k callerA) (inK : ∀ (w : World) (h : Heap), YP w h → (K w.params).In h)
    (F : ∀ (w : World) (mg : Str → Option Value) (fa : Addr) (h : Heap), (K w.params).In h → h.Ns mainGlobals mg → mg d.name = some (.ref fa) →
      ∃ fd : FuncData, (∀ (s : Shared) (u : Value), BindsTo s fd ⟨[u], []⟩ [(x, u)]) ∧ ∀ base : Heap, (K w.params).In base → base.Ns mainGlobals mg → FnG l.prog w (K w.params) mg base k fa fd [x] (sp w))
    (want : ∀ (w : World) (H : Hp) (a : Addr) (ns : List Int), ns.length ≤ n → Only H → SqL (K w.params) H a (ns.map V.int) → sp w [.ref a] H (fun v _ => v = .bl true) fun _ _ _ => False) :
    PySem.W.WalkO q loose XP YP l.row.toRowW d [] (fun f vs => PySem.call f vs) := by
  refine Att.attach_call most nodef ?_
  intro w s0 s1 mg mb fa o pm cd doc a vs ns G Y ho hd hcd gl obj ivs small gens
  obtain ⟨fd, bnd, walk⟩ := F w mg fa _ (inK w _ Y) G.T.g gl
  exact callG (inK w _ Y) G.T.g G.T.b G.T.builtins G.T.nolimit gens obj ivs (Nat.le_trans small few) room walk bnd (fun H only sq => want w H a ns small only sq)

/-! ### what is shown of data -/
section
variable {X : Cx}
def rRepr (K : PySem.W.Frag) : List V → Hp → VK → Prop := fun xs H Q => ∃ a d, xs = [.ref a] ∧ Dp K H (.ref a) d ∧ d.showable = true ∧ d.hasDict = false ∧ d.depth ≤ 60 ∧ d.shown.length ≤ sizeLine ∧ Q (.str d.shown) H
theorem call_reprD (hg : X.A.guards = some []) (hu : X.A.units + 64 < cLine) : CallR X (.builtin "repr") (rRepr X.K) := by
  intro pins s σ H xs us Q I r h
  obtain ⟨a, d, rfl, hd, hs, nd, dep, sz, q⟩ := h
  obtain ⟨u, rfl, rx⟩ := vals1 r
  cases (show u = Value.ref a from rx)
  obtain ⟨as, rd⟩ := Dp.reads I d _ _ hd rfl
  exact repr_of_reads' rd hs (fun z => by rw [nd] at z; cases z) hg (by omega) (fun _ _ e => e) (fun h' u tk k => ⟨.str d.shown, H, I.kept k, ⟨u, rfl⟩, q⟩) sz
theorem q_reprB {K : PySem.W.Frag} {H : Hp} {Q : VK} {a : Addr} {b1 b2 : Bool} (h : H a = some (.lst [.bl b1, .bl b2])) (q : Q (.str (PyData.list [.bool b1, .bool b2]).shown) H) : rRepr K [.ref a] H Q :=
  ⟨a, .list [.bool b1, .bool b2], rfl, .lst (SqL.of h) (.cons (.bl _) (.cons (.bl _) .nil)), rfl, rfl, (by cases b1 <;> cases b2 <;> decide), (by cases b1 <;> cases b2 <;> decide +kernel), q⟩
theorem q_neS {H : Hp} {Q : VK} {x : Str} (q : Q (.bl false) H) : rNe (.str x) (.str x) H Q := ⟨rfl, by rw [decide_eq_true rfl]; exact q⟩
theorem Go.same {bx : Addr} {H H' : Hp} (h : H bx = none) (g : Go bx H H') : Same H H' := fun b o e => g b o e (ne_of_none e h)
end
end HP
namespace HP
open PySem PySem.Spec PyProof.Rows L2
/-! ### data that is shown, compared -/
structure GD (d : PyData) (k m : Nat) : Prop where
  s : d.showable = true
  h : d.hasDict = false
  dp : d.depth ≤ k
  l : d.leavesShort 2000 = true
  b : d.bulk ≤ m
  c : d.canLay0 = true
theorem GD.mono {d : PyData} {k m k' m' : Nat} (g : GD d k m) (h1 : k ≤ k') (h2 : m ≤ m') : GD d k' m' := ⟨g.s, g.h, Nat.le_trans g.dp h1, g.l, Nat.le_trans g.b h2, g.c⟩
theorem gd_int {i : Int} (h : Bt 1900 i) : GD (.int i) 1 0 := by
  have hl := h.log
  refine ⟨?_, rfl, ?_, ?_, ?_, rfl⟩
  · simp only [PyData.showable, decide_eq_true_eq]
    omega
  · simp [PyData.depth]
  · simp only [PyData.leavesShort, decide_eq_true_eq]
    exact Nat.le_trans (int_text_len_1921 (i := i) (by omega)) (by decide)
  · simp [PyData.bulk]
theorem gd_all {k m : Nat} : ∀ ds : List PyData, (∀ d ∈ ds, GD d k m) → PyData.showableAll ds = true ∧ PyData.hasDictAll ds = false ∧ PyData.depthAll ds ≤ k ∧ PyData.leavesShortAll 2000 ds = true ∧ PyData.bulkAll ds ≤ (m + 1) * ds.length ∧ PyData.canLayAll0 ds = true
  | [], _ => ⟨rfl, rfl, Nat.zero_le _, rfl, Nat.zero_le _, rfl⟩
  | d :: ds, h => by
    have g := h d List.mem_cons_self
    obtain ⟨h1, h2, h3, h4, h5, h6⟩ := gd_all ds fun x hx => h x (List.mem_cons_of_mem _ hx)
    refine ⟨?_, ?_, ?_, ?_, ?_, ?_⟩
    · simp only [PyData.showableAll, g.s, h1, Bool.and_self]
    · simp only [PyData.hasDictAll, g.h, h2, Bool.or_self]
    · have := g.dp
      simp only [PyData.depthAll]
      omega
    · simp only [PyData.leavesShortAll, g.l, h4, Bool.and_self]
    · have := g.b
      simp only [PyData.bulkAll, List.length_cons, Nat.mul_add, Nat.mul_one]
      omega
    · simp only [PyData.canLayAll0, g.c, h6, Bool.and_self]
theorem gd_list {k m : Nat} {ds : List PyData} (h : ∀ d ∈ ds, GD d k m) : GD (.list ds) (k + 1) ((m + 1) * ds.length) := by
  obtain ⟨h1, h2, h3, h4, h5, h6⟩ := gd_all ds h
  refine ⟨?_, ?_, ?_, ?_, ?_, ?_⟩
  · simpa only [PyData.showable] using h1
  · simpa only [PyData.hasDict] using h2
  · simp only [PyData.depth]
    omega
  · simpa only [PyData.leavesShort] using h4
  · simpa only [PyData.bulk] using h5
  · simpa only [PyData.canLay0] using h6
theorem gd_tuple {k m : Nat} {ds : List PyData} (h : ∀ d ∈ ds, GD d k m) : GD (.tuple ds) (k + 1) ((m + 1) * ds.length) := by
  obtain ⟨h1, h2, h3, h4, h5, h6⟩ := gd_all ds h
  refine ⟨?_, ?_, ?_, ?_, ?_, ?_⟩
  · simpa only [PyData.showable] using h1
  · simpa only [PyData.hasDict] using h2
  · simp only [PyData.depth]
    omega
  · simpa only [PyData.leavesShort] using h4
  · simpa only [PyData.bulk] using h5
  · simpa only [PyData.canLay0] using h6
theorem GD.shaped {d : PyData} {k m : Nat} (g : GD d k m) (h : k ≤ 64) : SeqAt.shaped d = true := by
  unfold SeqAt.shaped
  rw [g.c, decide_eq_true (Nat.le_trans g.dp h)]
  rfl
theorem GD.len {d : PyData} {k m : Nat} (g : GD d k m) (h : m ≤ 8000) : d.shown.length ≤ sizeLine := by
  have h1 := PyData.shown_le_bulk 2000 (by decide) d g.l
  have h2 := g.b
  rw [sizeLine_eq]
  have h3 : (2000 + 2) * d.bulk ≤ (2000 + 2) * 8000 := Nat.mul_le_mul_left _ (by omega)
  omega
theorem q_repr {K : PySem.W.Frag} {H : Hp} {Q : VK} {a : Addr} {d : PyData} {k m : Nat} (h : Dp K H (.ref a) d) (g : GD d k m) (hk : k ≤ 60) (hm : m ≤ 8000) (q : Q (.str d.shown) H) : rRepr K [.ref a] H Q :=
  ⟨a, d, rfl, h, g.s, g.h, Nat.le_trans g.dp hk, g.len hm, q⟩
/-- a number as data -/
def dN (t b : Int) : PyData := if b = 1 then .int t else .tuple [.int t, .int b]
theorem Num.dp {K : PySem.W.Frag} {H : Hp} {v : V} {t b : Int} (h : Num H v t b) : Dp K H v (dN t b) := by
  unfold dN
  rcases h with ⟨rfl, rfl⟩ | ⟨a, rfl, ha, hb, _⟩
  · rw [if_pos rfl]
    exact .int _
  · rw [if_neg (by omega)]
    exact .tup (SqT.of ha) (.cons (.int _) (.cons (.int _) .nil))
theorem gd_num {t b : Int} (h1 : Bt 1900 t) (h2 : Bt 1900 b) : GD (dN t b) 2 2 := by
  unfold dN
  split
  · exact (gd_int h1).mono (by decide) (by decide)
  · refine (gd_tuple (k := 1) (m := 0) ?_).mono (by decide) (by simp)
    intro d hd
    rcases List.mem_cons.mp hd with e | hd
    · rw [e]
      exact gd_int h1
    rcases List.mem_cons.mp hd with e | hd
    · rw [e]
      exact gd_int h2
    · cases hd
/-- numbers in a list -/
abbrev Its (H : Hp) : List V → List (Int × Int) → Prop := Paired fun v p => Num H v p.1 p.2 ∧ Bt 200 p.1 ∧ Bt 200 p.2
theorem Its.same {H H' : Hp} (s : Same H H') : ∀ {vs : List V} {ps : List (Int × Int)}, Its H vs ps → Its H' vs ps
  | _, _, .nil => .nil
  | _, _, .cons ⟨h1, h2⟩ t => .cons ⟨h1.same s, h2⟩ (Its.same s t)
theorem Its.go {H H' : Hp} {bx : Addr} {n : Int} (B : Box H bx n) (g : Go bx H H') : ∀ {vs : List V} {ps : List (Int × Int)}, Its H vs ps → Its H' vs ps
  | _, _, .nil => .nil
  | _, _, .cons ⟨h1, h2⟩ t => .cons ⟨h1.go B g, h2⟩ (Its.go B g t)
def dNs (ps : List (Int × Int)) : List PyData := ps.map fun p => dN p.1 p.2
theorem Its.dp {K : PySem.W.Frag} {H : Hp} : ∀ {vs : List V} {ps : List (Int × Int)}, Its H vs ps → DpAll K H vs (dNs ps)
  | _, _, .nil => .nil
  | _, _, .cons h t => .cons h.1.dp (Its.dp t)
theorem Its.gd {H : Hp} : ∀ {vs : List V} {ps : List (Int × Int)}, Its H vs ps → ∀ d ∈ dNs ps, GD d 2 2
  | _, _, .nil, _, hd => nomatch hd
  | _, _, .cons (a := v) (b := p) h t, d, hd => by
    rcases List.mem_cons.mp hd with e | hd
    · rw [e]
      exact gd_num (h.2.1.mono (by decide)) (h.2.2.mono (by decide))
    · exact Its.gd t d hd
theorem Its.len {H : Hp} : ∀ {vs : List V} {ps : List (Int × Int)}, Its H vs ps → vs.length = ps.length
  | _, _, .nil => rfl
  | _, _, .cons _ t => congrArg Nat.succ (Its.len t)
theorem Its.mem {H : Hp} : ∀ {vs : List V} {ps : List (Int × Int)}, Its H vs ps → ∀ {v : V}, v ∈ vs → ∃ t b, Num H v t b ∧ Bt 200 t ∧ Bt 200 b
  | _, _, .nil, _, hv => nomatch hv
  | _, _, .cons (a := v) (b := p) h t, _, hv => by
    rcases List.mem_cons.mp hv with e | hv
    · rw [e]
      exact ⟨p.1, p.2, h⟩
    · exact Its.mem t hv
theorem Its.snoc {H : Hp} {vs : List V} {ps : List (Int × Int)} {v : V} {t b : Int} (h : Its H vs ps) (N : Num H v t b) (B1 : Bt 200 t) (B2 : Bt 200 b) : Its H (vs ++ [v]) (ps ++ [(t, b)]) := Paired.snoc h ⟨N, B1, B2⟩
end HP
namespace HP
open PySem PySem.Spec PyProof.Rows L2
/-! ### numbers as rationals -/
def NQ (H : Hp) (v : V) (q : Rat) : Prop := Num H v q.num (q.den : Int)
structure BQ (n : Nat) (q : Rat) : Prop where
  t : Bt n q.num
  b : Bt n (q.den : Int)
theorem BQ.mono {n m : Nat} {q : Rat} (h : BQ n q) (l : n ≤ m) : BQ m q := ⟨h.t.mono l, h.b.mono l⟩
theorem NQ.same {H H' : Hp} {v : V} {q : Rat} (h : NQ H v q) (s : Same H H') : NQ H' v q := Num.same h s
theorem NQ.go {H H' : Hp} {v : V} {q : Rat} {n : Int} {bx : Addr} (h : NQ H v q) (B : Box H bx n) (s : Go bx H H') : NQ H' v q := Num.go h B s
theorem rat_nd (q : Rat) : q = (q.num : Rat) / ((q.den : Int) : Rat) := by
  rw [← Rat.divInt_eq_div]
  exact (Rat.num_divInt_den q).symm
theorem int_ne {b : Int} (h : b ≠ 0) : (b : Rat) ≠ 0 := fun z => h (by exact_mod_cast z)
theorem den_ne (q : Rat) : ((q.den : Int) : Rat) ≠ 0 := int_ne (by have := q.den_pos; omega)
theorem den_pos' (q : Rat) : 0 < (q.den : Int) := by have := q.den_pos; omega
theorem cop_nd (q : Rat) : cop q.num (q.den : Int) := by
  unfold cop
  rw [Int.natAbs_natCast]
  exact q.reduced
/-- what is lowest of T over B is the rational's own pair -/
theorem nd_of {t b T B : Int} (p : 0 < b) (c : cop t b) (hB : B ≠ 0) (h : t * B = T * b) : t = ((T : Rat) / (B : Rat)).num ∧ b = (((T : Rat) / (B : Rat)).den : Int) := by
  refine low_one p (den_pos' _) c (cop_nd _) ?_
  have h1 := rat_nd ((T : Rat) / (B : Rat))
  have h2 := den_ne ((T : Rat) / (B : Rat))
  have h3 := int_ne hB
  have h5 : (b : Rat) ≠ 0 := int_ne (by omega)
  have h4 : (t : Rat) * (B : Rat) = (T : Rat) * (b : Rat) := by exact_mod_cast h
  generalize ((T : Rat) / (B : Rat)).num = n at *
  generalize (((T : Rat) / (B : Rat)).den : Int) = d at *
  have h6 : (t : Rat) * (d : Rat) = (n : Rat) * (b : Rat) := by grind
  exact_mod_cast h6
theorem Num.nq {H : Hp} {v : V} {t b T B : Int} (N : Num H v t b) (hB : B ≠ 0) (L : Low T B t b) : NQ H v ((T : Rat) / (B : Rat)) := by
  obtain ⟨e1, e2⟩ := nd_of N.pos N.cop hB L.eq
  unfold NQ
  rw [← e1, ← e2]
  exact N
theorem Num.nq' {H : Hp} {v : V} {t b : Int} (N : Num H v t b) : NQ H v ((t : Rat) / (b : Rat)) := N.nq (by have := N.pos; omega) ⟨rfl, Nat.le_refl _, Nat.le_refl _⟩
theorem NQ.is {H : Hp} {v : V} {q r : Rat} (h : NQ H v q) (e : q = r) : NQ H v r := e ▸ h
theorem NQ.int {H : Hp} {i : Int} : NQ H (.int i) (i : Rat) := by
  unfold NQ
  rw [Rat.num_intCast, Rat.den_intCast]
  exact Num.int
theorem NQ.cast {H : Hp} {i : Int} {q : Rat} (e : q = (i : Rat)) : NQ H (.int i) q := by
  rw [e]
  exact NQ.int
theorem BQ.int {n : Nat} {i : Int} (h : Bt n i) (h1 : 1 ≤ n) : BQ n (i : Rat) := ⟨by rw [Rat.num_intCast]; exact h, by rw [Rat.den_intCast]; exact (⟨by decide⟩ : Bt 1 1).mono h1⟩
theorem BQ.of {n : Nat} {T B : Int} (h1 : Bt n T) (h2 : Bt n B) (hB : B ≠ 0) : BQ n ((T : Rat) / (B : Rat)) := by
  obtain ⟨t', b', C⟩ := cut_of (t := T) hB
  obtain ⟨e1, e2⟩ := nd_of C.p C.c hB C.low.eq
  exact ⟨by rw [← e1]; exact h1.le C.low.nt, by rw [← e2]; exact h2.le C.low.nb⟩
theorem BQ.is {n : Nat} {q r : Rat} (h : BQ n q) (e : q = r) : BQ n r := e ▸ h
theorem Bt.add2 {n : Nat} {x y : Int} (h : Bt n x) (k : Bt n y) : Bt (n + 1) (x + y) := ⟨by
  have h1 := h.lt
  have h2 := k.lt
  rw [Nat.pow_succ]
  generalize 2 ^ n = z at h1 h2 ⊢
  omega⟩
theorem Bt.sub2 {n : Nat} {x y : Int} (h : Bt n x) (k : Bt n y) : Bt (n + 1) (x - y) := by
  rw [Int.sub_eq_add_neg]
  exact h.add2 k.neg
theorem q_add (a b : Rat) : a + b = ((a.num * (b.den : Int) + b.num * (a.den : Int) : Int) : Rat) / (((a.den : Int) * (b.den : Int) : Int) : Rat) := by
  have h1 := rat_nd a
  have h2 := rat_nd b
  have h3 := den_ne a
  have h4 := den_ne b
  rw [Rat.intCast_add, Rat.intCast_mul, Rat.intCast_mul, Rat.intCast_mul]
  grind
theorem q_sub (a b : Rat) : a - b = ((a.num * (b.den : Int) - b.num * (a.den : Int) : Int) : Rat) / (((a.den : Int) * (b.den : Int) : Int) : Rat) := by
  have h1 := rat_nd a
  have h2 := rat_nd b
  have h3 := den_ne a
  have h4 := den_ne b
  rw [Rat.intCast_sub, Rat.intCast_mul, Rat.intCast_mul, Rat.intCast_mul]
  grind
theorem q_mul (a b : Rat) : a * b = ((a.num * b.num : Int) : Rat) / (((a.den : Int) * (b.den : Int) : Int) : Rat) := by
  have h1 := rat_nd a
  have h2 := rat_nd b
  have h3 := den_ne a
  have h4 := den_ne b
  rw [Rat.intCast_mul, Rat.intCast_mul]
  grind
theorem num_ne {b : Rat} (hb : b ≠ 0) : b.num ≠ 0 := fun z => hb (by
  rw [rat_nd b, z, Rat.div_def, show ((0 : Int) : Rat) = 0 from rfl]
  exact Rat.zero_mul _)
theorem q_div (a b : Rat) (hb : b ≠ 0) : a / b = ((a.num * (b.den : Int) : Int) : Rat) / (((a.den : Int) * b.num : Int) : Rat) := by
  have h1 := rat_nd a
  have h2 := rat_nd b
  have h3 := den_ne a
  have h4 := den_ne b
  have h5 := int_ne (num_ne hb)
  rw [Rat.intCast_mul, Rat.intCast_mul]
  grind
theorem dd_ne (a b : Rat) : (a.den : Int) * (b.den : Int) ≠ 0 := Int.mul_ne_zero (by have := a.den_pos; omega) (by have := b.den_pos; omega)
theorem dn_ne (a : Rat) {b : Rat} (h : b ≠ 0) : (a.den : Int) * b.num ≠ 0 := Int.mul_ne_zero (by have := a.den_pos; omega) (num_ne h)
theorem BQ.add {n m : Nat} {a b : Rat} (h : BQ n a) (k : BQ m b) : BQ (n + m + 1) (a + b) := by
  rw [q_add]
  refine BQ.of ?_ ((h.b.mul k.b).mono (by omega)) (dd_ne a b)
  have h1 := h.t.mul k.b
  have h2 := k.t.mul h.b
  rw [Nat.add_comm m n] at h2
  exact h1.add2 h2
theorem BQ.sub {n m : Nat} {a b : Rat} (h : BQ n a) (k : BQ m b) : BQ (n + m + 1) (a - b) := by
  rw [q_sub]
  refine BQ.of ?_ ((h.b.mul k.b).mono (by omega)) (dd_ne a b)
  have h1 := h.t.mul k.b
  have h2 := k.t.mul h.b
  rw [Nat.add_comm m n] at h2
  exact h1.sub2 h2
theorem BQ.mul {n m : Nat} {a b : Rat} (h : BQ n a) (k : BQ m b) : BQ (n + m) (a * b) := by
  rw [q_mul]
  exact BQ.of (h.t.mul k.t) (h.b.mul k.b) (dd_ne a b)
theorem BQ.div {n m : Nat} {a b : Rat} (h : BQ n a) (k : BQ m b) (hb : b ≠ 0) : BQ (n + m) (a / b) := by
  rw [q_div a b hb]
  exact BQ.of (h.t.mul k.b) (h.b.mul k.t) (dn_ne a hb)
theorem BQ.neg {n : Nat} {a : Rat} (h : BQ n a) : BQ n (-a) := ⟨by rw [Rat.neg_num]; exact h.t.neg, by rw [Rat.neg_den]; exact h.b⟩
theorem q_lt (a b : Rat) : a < b ↔ a.num * (b.den : Int) < b.num * (a.den : Int) := by
  have h1 := rat_nd a
  have h2 := rat_nd b
  have p1 : (0 : Rat) < ((a.den : Int) : Rat) := by exact_mod_cast den_pos' a
  have p2 : (0 : Rat) < ((b.den : Int) : Rat) := by exact_mod_cast den_pos' b
  have key : (a < b) ↔ ((a.num : Rat) * ((b.den : Int) : Rat) < (b.num : Rat) * ((a.den : Int) : Rat)) := by
    have e1 : (a.num : Rat) = a * ((a.den : Int) : Rat) := by grind
    have e2 : (b.num : Rat) = b * ((b.den : Int) : Rat) := by grind
    rw [e1, e2]
    generalize ((a.den : Int) : Rat) = x at *
    generalize ((b.den : Int) : Rat) = y at *
    have e3 : a * x * y = a * (x * y) := by grind
    have e4 : b * y * x = b * (x * y) := by grind
    rw [e3, e4]
    have p3 : 0 < x * y := Rat.mul_pos p1 p2
    constructor
    · intro h
      exact Rat.mul_lt_mul_of_pos_right h p3
    · intro h
      exact Rat.lt_of_mul_lt_mul_right h (Rat.le_of_lt p3)
  rw [key]
  constructor
  · intro h
    exact_mod_cast h
  · intro h
    exact_mod_cast h
/-! what the defs promise, in rationals -/
def spPairQ : Sp := fun vs H Q _ => ∃ v q, vs = [v] ∧ NQ H v q ∧ ∀ p H', Same H H' → H' p = some (.tup [.int q.num, .int (q.den : Int)]) → Q (.ref p) H'
def spIsNumQ : Sp := fun vs H Q _ => ∃ v q, vs = [v] ∧ NQ H v q ∧ Q (.bl true) H
def spNeedQ : Sp := fun vs H Q _ => ∃ v q, vs = [v] ∧ NQ H v q ∧ Q .non H
def spLowQ : Sp := fun vs H Q _ => ∃ t b : Int, vs = [.int t, .int b] ∧ b ≠ 0 ∧ Bt 8000 t ∧ Bt 8000 b ∧ ∀ v H', Same H H' → NQ H' v ((t : Rat) / (b : Rat)) → Q v H'
def spNegQ : Sp := fun vs H Q _ => ∃ v q, vs = [v] ∧ NQ H v q ∧ ∀ v' H', Same H H' → NQ H' v' (-q) → Q v' H'
def sp2Q (f : Rat → Rat → Rat) : Sp := fun vs H Q _ => ∃ x y a b, vs = [x, y] ∧ NQ H x a ∧ NQ H y b ∧ BQ 2000 a ∧ BQ 2000 b ∧ ∀ v H', Same H H' → NQ H' v (f a b) → Q v H'
def spOverQ : Sp := fun vs H Q _ => ∃ x y a b, vs = [x, y] ∧ NQ H x a ∧ NQ H y b ∧ b ≠ 0 ∧ BQ 2000 a ∧ BQ 2000 b ∧ ∀ v H', Same H H' → NQ H' v (a / b) → Q v H'
def spLessQ : Sp := fun vs H Q _ => ∃ x y a b, vs = [x, y] ∧ NQ H x a ∧ NQ H y b ∧ BQ 4000 a ∧ BQ 4000 b ∧ ∀ H', Same H H' → Q (.bl (decide (a < b))) H'
def spSignQ : Sp := fun vs H Q _ => ∃ v q, vs = [v] ∧ NQ H v q ∧ ∀ H', Same H H' → Q (.int (sgn q.num)) H'
def spBareQ : Sp := fun vs H Q _ => ∃ v q, vs = [v] ∧ NQ H v q ∧ ∀ v' H', Same H H' → NQ H' v' (if q < 0 then -q else q) → Q v' H'
def spIsQ : Sp := fun vs H Q _ => ∃ x y q, vs = [x, y] ∧ NQ H x q ∧ NQ H y q ∧ ∀ H', Same H H' → Q (.bl true) H'
def spDrawnQ : Sp := fun vs H Q _ => ∃ bx n, vs = [.ref bx] ∧ Box H bx n ∧ n < 800000 ∧ ∀ v q H', NQ H' v q → BQ 120 q → Go bx H H' → Box H' bx (n + 100) → Q v H'
theorem im_pair {vs H Q E} (h : spPairQ vs H Q E) : spPair vs H Q E := by
  obtain ⟨v, q, rfl, N, k⟩ := h
  exact ⟨v, _, _, rfl, N, k⟩
theorem im_isnum {vs H Q E} (h : spIsNumQ vs H Q E) : spIsNum vs H Q E := by
  obtain ⟨v, q, rfl, N, k⟩ := h
  exact ⟨v, _, _, rfl, N, k⟩
theorem im_need {vs H Q E} (h : spNeedQ vs H Q E) : spNeed vs H Q E := by
  obtain ⟨v, q, rfl, N, k⟩ := h
  exact ⟨v, _, _, rfl, N, k⟩
theorem im_low {vs H Q E} (h : spLowQ vs H Q E) : spLow vs H Q E := by
  obtain ⟨t, b, rfl, hb, B1, B2, k⟩ := h
  exact ⟨t, b, rfl, hb, B1, B2, fun v H' t' b' S N L => k v H' S (N.nq hb L)⟩
theorem im_neg {vs H Q E} (h : spNegQ vs H Q E) : spNeg vs H Q E := by
  obtain ⟨v, q, rfl, N, k⟩ := h
  refine ⟨v, _, _, rfl, N, fun v' H' S N' => k v' H' S ?_⟩
  unfold NQ
  rw [Rat.neg_num, Rat.neg_den]
  exact N'
theorem im_add {vs H Q E} (h : sp2Q (· + ·) vs H Q E) : spAdd vs H Q E := by
  obtain ⟨x, y, a, b, rfl, N1, N2, B1, B2, k⟩ := h
  refine ⟨x, y, _, _, _, _, rfl, N1, N2, B1.t, B1.b, B2.t, B2.b, fun v H' t' b' S N L => k v H' S ?_⟩
  show NQ H' v (a + b)
  rw [q_add]
  exact N.nq (dd_ne a b) L
theorem im_sub {vs H Q E} (h : sp2Q (· - ·) vs H Q E) : spSub vs H Q E := by
  obtain ⟨x, y, a, b, rfl, N1, N2, B1, B2, k⟩ := h
  refine ⟨x, y, _, _, _, _, rfl, N1, N2, B1.t, B1.b, B2.t, B2.b, fun v H' t' b' S N L => k v H' S ?_⟩
  show NQ H' v (a - b)
  rw [q_sub]
  exact N.nq (dd_ne a b) L
theorem im_mul {vs H Q E} (h : sp2Q (· * ·) vs H Q E) : spMul vs H Q E := by
  obtain ⟨x, y, a, b, rfl, N1, N2, B1, B2, k⟩ := h
  refine ⟨x, y, _, _, _, _, rfl, N1, N2, B1.t, B1.b, B2.t, B2.b, fun v H' t' b' S N L => k v H' S ?_⟩
  show NQ H' v (a * b)
  rw [q_mul]
  exact N.nq (dd_ne a b) L
theorem im_over {vs H Q E} (h : spOverQ vs H Q E) : spOver vs H Q E := by
  obtain ⟨x, y, a, b, rfl, N1, N2, hb, B1, B2, k⟩ := h
  refine ⟨x, y, _, _, _, _, rfl, N1, N2, num_ne hb, B1.t, B1.b, B2.t, B2.b, fun v H' t' b' S N L => k v H' S ?_⟩
  rw [q_div a b hb]
  exact N.nq (dn_ne a hb) L
theorem im_less {vs H Q E} (h : spLessQ vs H Q E) : spLess vs H Q E := by
  obtain ⟨x, y, a, b, rfl, N1, N2, B1, B2, k⟩ := h
  refine ⟨x, y, _, _, _, _, rfl, N1, N2, B1.t, B1.b, B2.t, B2.b, fun H' S => ?_⟩
  have := k H' S
  rw [show decide (a < b) = decide (a.num * (b.den : Int) < b.num * (a.den : Int)) from decide_eq_decide.mpr (q_lt a b)] at this
  exact this
theorem im_sign {vs H Q E} (h : spSignQ vs H Q E) : spSign vs H Q E := by
  obtain ⟨v, q, rfl, N, k⟩ := h
  exact ⟨v, _, _, rfl, N, k⟩
theorem q_neg0 (q : Rat) : q < 0 ↔ q.num < 0 := by
  rw [q_lt q 0]
  show q.num * (1 : Int) < 0 * (q.den : Int) ↔ _
  rw [Int.mul_one, Int.zero_mul]
theorem im_bare {vs H Q E} (h : spBareQ vs H Q E) : spBare vs H Q E := by
  obtain ⟨v, q, rfl, N, k⟩ := h
  refine ⟨v, _, _, rfl, N, fun v' H' S N' => k v' H' S ?_⟩
  unfold NQ
  by_cases z : q < 0
  · rw [if_pos z, Rat.neg_num, Rat.neg_den]
    rw [if_pos ((q_neg0 q).mp z)] at N'
    exact N'
  · rw [if_neg z]
    rw [if_neg (fun y => z ((q_neg0 q).mpr y))] at N'
    exact N'
theorem im_is {vs H Q E} (h : spIsQ vs H Q E) : spIs vs H Q E := by
  obtain ⟨x, y, q, rfl, N1, N2, k⟩ := h
  exact ⟨x, y, _, _, rfl, N1, N2, k⟩
theorem im_drawn {vs H Q E} (h : spDrawnQ vs H Q E) : spDrawn vs H Q E := by
  obtain ⟨bx, n, rfl, BX, hn, k⟩ := h
  refine ⟨bx, n, rfl, BX, hn, fun v t b H' N B1 B2 G BX' => k v _ H' N.nq' (BQ.of B1 B2 (by have := N.pos; omega)) G BX'⟩
theorem NQ.dp {K : PySem.W.Frag} {H : Hp} {v : V} {q : Rat} (h : NQ H v q) : Dp K H v (dN q.num (q.den : Int)) := Num.dp h
section
variable {P : Program} {w : World} {K : PySem.W.Frag} {mg : Str → Option Value} {base : Heap}
theorem Cal.imp {k : Nat} {x : Str} {ps : List Str} {sp sp' : Sp} (c : Cal P w K mg base k x ps sp) (h : ∀ {vs H Q E}, sp' vs H Q E → sp vs H Q E) : Cal P w K mg base k x ps sp' := by
  obtain ⟨f, fd, F, a, b, d⟩ := c.ex
  exact ⟨f, fd, F.imp fun vs H Q E q => ⟨q.1, h q.2⟩, a, b, d⟩
theorem CalK.imp {k : Nat} {x : Str} {ps : List Str} {sp sp' : Sp} {n : Nat} {ks : List Str} {dvs : List V} {perm : List Nat} (c : CalK P w K mg base k x ps sp n ks dvs perm) (h : ∀ {vs H Q E}, sp' vs H Q E → sp vs H Q E) : CalK P w K mg base k x ps sp' n ks dvs perm := by
  obtain ⟨f, fd, mv, F, a, b, d⟩ := c.ex
  exact ⟨f, fd, mv, F.imp fun vs H Q E q => ⟨q.1, h q.2⟩, a, b, d⟩
end
end HP
namespace HP
open PySem PySem.Spec PyProof.Rows L2
/-! ### defs that raise, errors with a field -/
section
variable {P : Program} {w : World} {K : PySem.W.Frag} {mg : Str → Option Value} {base : Heap}
theorem fnX {x : Str} {st : Stmt} {f : Addr} {fd : FuncData} {N ps : List Str} {k : Nat} {sp : Sp} (F : Fun K x x st f fd) (S : FnScope N ps (defScope st))
    (hbody : ∀ (cdv : Value) (A : Around) (outer : List Env) (s : Shared) (H : Hp) (vs : List V) (Q : VK) (E : XK), Room k (A.deeper (envOfC x (defScope st) s.heap.objs.size f cdv)) → sp vs H Q E →
      ∃ t, PSs (cxOf (L2.CX P w) P w K mg base N x (defScope st) f cdv A outer s H E) (defBody st) t ∧ t { nx := fun _ H' => Q .non H', rt := Q } (start N vs) H) : FnOk P w K mg base (L2.CX P w) (k + 1) f fd ps (spN ps.length sp) :=
  F.okX S (fun _ _ _ _ h => h.1) (fun cdv A outer s H vs Q E hr h => hbody cdv A outer s H vs Q E hr h.2)
theorem fnDX {x : Str} {st : Stmt} {dvs : List V} {kws : List (Str × V)} {f : Addr} {fd : FuncData} {N ps : List Str} {k : Nat} {sp : Sp} (F : FunD K x x (defArgs st) (defBody st) (defScope st) dvs kws f fd) (S : FnScope N ps (defScope st))
    (hbody : ∀ (cdv : Value) (A : Around) (outer : List Env) (s : Shared) (H : Hp) (vs : List V) (Q : VK) (E : XK), Room k (A.deeper (envOfC x (defScope st) s.heap.objs.size f cdv)) → sp vs H Q E →
      ∃ t, PSs (cxOf (L2.CX P w) P w K mg base N x (defScope st) f cdv A outer s H E) (defBody st) t ∧ t { nx := fun _ H' => Q .non H', rt := Q } (start N vs) H) : FnOk P w K mg base (L2.CX P w) (k + 1) f fd ps (spN ps.length sp) :=
  F.ok S (fun _ _ _ _ h => h.1) (fun cdv A outer s H vs Q E hr h => hbody cdv A outer s H vs Q E hr h.2)
/-- where nothing is raised -/
def spE0 (sp : Sp) : Sp := fun vs H Q _ => sp vs H Q E0
theorem noraise {k : Nat} {f : Addr} {fd : FuncData} {ps : List Str} {sp : Sp} {n : Nat} (F : FnOk P w K mg base (L2.CX P w) k f fd ps (spN n sp)) : FnOk P w K mg base CX0 k f fd ps (spN n (spE0 sp)) := by
  refine ⟨fun vs H Q E h => F.len vs H Q E0 ⟨h.1, h.2⟩, fun A outer s H ar us vs Q E hr e0 hb r h => ?_⟩
  refine codeAny_mono (F.run A outer s H ar us vs Q E0 hr e0 hb r ⟨h.1, h.2⟩) fun res s' hq => ?_
  cases res with
  | ok fl => cases fl <;> exact hq
  | error e =>
    obtain ⟨_, _, _, _, _, _, _, _, _, _, _, _, z⟩ := (show L2.CX P w outer H s E0 e s' from hq)
    exact z.elim
structure CalX (P : Program) (w : World) (K : PySem.W.Frag) (mg : Str → Option Value) (base : Heap) (k : Nat) (x : Str) (ps : List Str) (sp : Sp) (n : Nat) (ks : List Str) (dvs : List V) (perm : List Nat) : Prop where
  ex : ∃ (f : Addr) (fd : FuncData) (mv : List Value), FnOk P w K mg base (L2.CX P w) k f fd ps (spN ps.length sp) ∧ mg x = some (.ref f) ∧ PySem.W.keepIn K (.ref f) = true ∧ KBn K fd ps n ks (fun us ws => pick perm (us ++ (mv ++ ws))) (fun vs zs => pick perm (vs ++ (dvs ++ zs)))
theorem calX {x : Str} {st : Stmt} {f : Addr} {fd : FuncData} {ps : List Str} {k : Nat} {sp : Sp} (n : FnOk P w K mg base (L2.CX P w) k f fd ps (spN ps.length sp)) (g : mg x = some (.ref f)) (F : Fun K x x st f fd) (m : Nat) (ks : List Str) (perm : List Nat)
    (b : ∀ (kV doc pm : Value) (an : Option Addr) (cdv ct : Value) (us ws : List Value), us.length = m → ws.length = ks.length → bindArgs (PySem.W.fnOf x x (defArgs st) (defBody st) (defScope st) .none kV doc pm an cdv ct) ⟨us, ks.zip ws⟩ = pure (ps.zip (pick perm (us ++ ws)))) : CalX P w K mg base k x ps sp m ks [] perm := by
  obtain ⟨oc, od, kV, doc, pm, an, cdv, ct, osl, rfl, lk, hcd⟩ := F.ex
  exact ⟨f, _, [], n, g, F.kp, ⟨fun s us ws _ l1 l2 => .of_eq (b kV doc pm an cdv ct us ws l1 l2), fun r1 r2 => pick_vals (r1.append r2) perm⟩⟩
theorem calXD {x : Str} {st : Stmt} {kws : List (Str × V)} {f : Addr} {fd : FuncData} {ps : List Str} {k : Nat} {sp : Sp} (n : FnOk P w K mg base (L2.CX P w) k f fd ps (spN ps.length sp)) (g : mg x = some (.ref f)) (F : FunD K x x (defArgs st) (defBody st) (defScope st) [] kws f fd) (m : Nat) (ks : List Str) (ms : List (Str × V)) (perm : List Nat)
    (hk : kws ≠ []) (hms : ∀ q ∈ ms, q ∈ kws)
    (b : ∀ (D : Addr) (doc pm : Value) (an : Option Addr) (cdv ct : Value) (us mv ws : List Value), us.length = m → mv.length = ms.length → ws.length = ks.length →
      KwChain D ((ms.map (·.1)).zip mv) (bindArgs (PySem.W.fnOf x x (defArgs st) (defBody st) (defScope st) .none (.ref D) doc pm an cdv ct) ⟨us, ks.zip ws⟩) (ps.zip (pick perm (us ++ (mv ++ ws))))) : CalX P w K mg base k x ps sp m ks (ms.map (·.2)) perm := by
  obtain ⟨mv, hb⟩ := F.kbinds0 m ks ms (fun {α} us mv ws => pick perm (us ++ (mv ++ ws))) hk hms (fun r1 r2 r3 => pick_vals (r1.append (r2.append r3)) perm) b
  exact ⟨f, fd, mv, n, g, F.kp, hb⟩
theorem CalX.no {k : Nat} {x : Str} {ps : List Str} {sp : Sp} {n : Nat} {ks : List Str} {dvs : List V} {perm : List Nat} (c : CalX P w K mg base k x ps sp n ks dvs perm) : CalK P w K mg base k x ps (spE0 sp) n ks dvs perm := by
  obtain ⟨f, fd, mv, F, a, b, d⟩ := c.ex
  exact ⟨f, fd, mv, noraise F, a, b, d⟩
end
def tCalX (n m np : Nat) (sp : Sp) (dvs : List V) (perm : List Nat) (W : WX) (t tk : TA) : TE := fun σ H Q => t σ H fun vs H1 => tk σ H1 fun zs H2 => vs.length = n ∧ zs.length = m ∧ (pick perm (vs ++ (dvs ++ zs))).length = np ∧ sp (pick perm (vs ++ (dvs ++ zs))) H2 Q (WE W σ)
theorem q_callX {σ : L2.St} {H : Hp} {Q : VK} {n m np : Nat} {sp : Sp} {dvs : List V} {perm : List Nat} {W : WX} {t tk : TA} (q : t σ H fun vs H1 => tk σ H1 fun zs H2 => vs.length = n ∧ zs.length = m ∧ (pick perm (vs ++ (dvs ++ zs))).length = np ∧ sp (pick perm (vs ++ (dvs ++ zs))) H2 Q (WE W σ)) : tCalX n m np sp dvs perm W t tk σ H Q := q
section
variable {X : Cx} {k j n : Nat} {x : Str} {ps ks : List Str} {sp : Sp} {p pos : Pos} {e : Expr} {es : List Expr} {t tk : TA} {dvs : List V} {perm : List Nat} {kws : List Keyword} {W : WX}
theorem pe_calX (C : CalX X.prog X.w X.K X.mg X.base k x ps sp n ks dvs perm) (hr : Room j X.A) (hkj : k ≤ j) (hg : Gl X x) (tW : Takes X W) (ha : PA X (e :: es) t) (hkw : PK X kws tk) (hall : (backToKw pos (keywordEach kws X.env)).all (·.1.isSome) = true := by rfl) (hks : (backToKw pos (keywordEach kws X.env)).filterMap (·.1) = ks := by rfl)
    (hdb : (x == ("__debug__" : Str)) = false := by decide) (he : starEach (e :: es) X.env = (false, eval e X.env) :: starEach es X.env := by rfl)
    (hpl : ((backTo pos (starEach (e :: es) X.env)).any (·.1) || (backToKw pos (keywordEach kws X.env)).any (·.1.isNone)) = false := by rfl) : PE X (.Call (.Name x p) (e :: es) kws pos) (tCalX n ks.length ps.length sp dvs perm W t tk) := by
  obtain ⟨f, fd, mv, F, hm, hk, hb⟩ := C.ex
  refine ⟨fun pins s σ H Q I h => ?_⟩
  refine wpAny_Call_Name_kw (ld_glob I hg hm ?_ hdb)
  refine PySem.W.callWith_KW (h₀ := X.base) I.ok.mod.kin hk hall (thn (ha.run pos pins s σ H _ I h) fun us s1 ⟨vs, H1, I1, r, q⟩ => ?_) hpl he
  refine thn (hkw.run pos pins s1 σ H1 _ I1 q) fun ws s2 ⟨zs, H2, I2, rz, l1, l2, l3, q2⟩ => ⟨I2.kIn, ?_⟩
  rw [hks]
  have r2 := hb.rel r rz
  refine wpAny_call (codeAny_mono (F.run X.A X.stack s2 H2 ⟨us, ks.zip ws⟩ _ _ Q (WE W σ) (hr.mono hkj) I2.env0 (hb.to s2 us ws I2.kIn (r.length.symm.trans l1) (rz.length.symm.trans l2)) r2 ⟨l3, q2⟩) fun res s' hq => ?_)
  match res, hq with
  | .error er, hq => exact passAt tW σ pins H2 s2 er s' I2 hq
  | .ok (.ret u), hq => exact I2.after hq
  | .ok .next, hq => exact False.elim hq
  | .ok .brk, hq => exact False.elim hq
  | .ok .cont, hq => exact False.elim hq
end
/-- an error's class at C, its __init__ at fI -/
structure ErrC (K : PySem.W.Frag) (mg : Str → Option Value) (x : Str) (C fI : Addr) : Prop where
  gm : mg x = some (.ref C)
  ox : OexC K C
  iC : PySem.W.findIn K (.ref C) "__init__" = some (some (.ref fI))
  tI : PySem.W.typeIn K (.ref fI) = some (.type "function")
  xf : XfC K C
  nF : PySem.W.findIn K (.ref C) "found" = some none
  ex : PySem.W.exmOne K (.ref C) (.ref C) = some true
def spErr (C : Addr) : Sp := fun vs H Q _ => ∃ a v, vs = [.ref a, v] ∧ H a = some (exo a C none) ∧ ∀ dx, H dx = none → dx ≠ a → Q .non (upd (upd H dx (exd dx [("found", v)])) a (exo a C (some dx)))
/-- what stands behind the making of an error -/
theorem q_mk {C : Addr} {v : V} {H : Hp} {R : XK} (q : ∀ d H', Same H H' → H d = none → H' d = some (.xd [("found", v)]) → R (.ref C) (some d) H') :
    [v].length ≤ 1000 ∧ ∀ a, H a = none → spN 2 (spErr C) (.ref a :: ([v] ++ [])) (upd H a (exo a C none)) (fun u H2 => u = .non ∧ ∃ (d : Addr) (fs : List (Str × V)), H2 a = some (exo a C (some d)) ∧ H2 d = some (exd d fs) ∧ H d = none ∧ R (.ref C) (some d) (upd (del H2 a) d (.xd fs))) (fun _ _ _ => False) := by
  refine ⟨Nat.le_of_ble_eq_true rfl, fun a na => ⟨rfl, a, v, rfl, upd_same, fun dx nx ne => ⟨rfl, dx, [("found", v)], upd_same, by rw [upd_ne ne, upd_same], ?_, q dx _ (fun b o e => ?_) ?_ upd_same⟩⟩⟩
  · rw [upd_ne ne] at nx
    exact nx
  · rw [upd_ne ne] at nx
    rw [upd_ne (ne_of_none e nx), del_ne (ne_of_none e na), upd_ne (ne_of_none e na), upd_ne (ne_of_none e nx), upd_ne (ne_of_none e na)]
    exact e
  · rw [upd_ne ne] at nx
    exact nx
/-- a class's own error is caught by its name -/
theorem exm_own {K : PySem.W.Frag} {C : Addr} (h1 : PySem.W.subIn K (.ref C) (.type "BaseException") = some true) (h2 : PySem.W.isClsIn K C = true) (h3 : PySem.W.typeIn K (.ref C) = some (.type "type")) (h4 : PySem.W.subIn K (.ref C) (.ref C) = some true) : PySem.W.exmOne K (.ref C) (.ref C) = some true := by
  have e2 : (PySem.W.clsIn K C).isSome = true := h2
  simp [PySem.W.exmOne, PySem.W.kitCls, h1, h3, h4, e2]
end HP
namespace HP
open PySem PySem.Spec PyProof.Rows L2
/-! ### ways and places -/
theorem pe_globI {X : Cx} {x : Str} {i : Int} {pos : Pos} (hg : Gl X x) (h : ∃ t, X.mg x = some (.int i t)) (hd : (x == ("__debug__" : Str)) = false := by decide) : PE X (.Name x pos) (tC (.int i)) := by
  obtain ⟨t, e⟩ := h
  exact pe_glob hg e ⟨t, rfl⟩ hd
section
variable {K : PySem.W.Frag} {H H' : Hp} {a bx : Addr} {xs : List V} {n : Int}
theorem sqt_same (h : SqT K H a xs) (s : Same H H') : SqT K H' a xs := by
  rcases h with (h | ⟨o, h⟩) | h
  · exact .inl (.inl (s _ _ h))
  · exact .inl (.inr ⟨o, s _ _ h⟩)
  · exact .inr h
theorem sqt_go (h : SqT K H a xs) (B : Box H bx n) (s : Go bx H H') : SqT K H' a xs := by
  rcases h with (h | ⟨o, h⟩) | h
  · exact .inl (.inl (s _ _ h (B.ne h)))
  · refine .inl (.inr ⟨o, s _ _ h ?_⟩)
    obtain ⟨_, _, _, h1, _⟩ := B
    exact ne_of h h1 (by intro z; cases z)
  · exact .inr h
theorem sqt_ty (h : SqT K H a xs) : TyX K H (.ref a) (.type "tuple") := by
  rcases h with (h | ⟨o, h⟩) | ⟨o, its, n, h1, h2, _⟩
  · exact .base (.tup h)
  · exact .fTuple h
  · exact .kTuple h1 h2
variable {Q : VK} {v : V}
theorem q_ttS (h : SqT K H a xs) (q : Q (.bl true) H) : rIsi K [.ref a, .ty "tuple"] H Q := q_isi (sqt_ty h) k_tt q
theorem q_tiS (h : SqT K H a xs) (q : Q (.bl false) H) : rIsi K [.ref a, .ty "int"] H Q := q_isi (sqt_ty h) k_ti q
theorem q_S0 (h : SqT K H a xs) (e : xs[0]? = some v) (q : Q v H) : rIxT K (.ref a) (.int 0) H Q := q_ixT (j := 0) h e q
theorem q_S1 (h : SqT K H a xs) (e : xs[1]? = some v) (q : Q v H) : rIxT K (.ref a) (.int 1) H Q := q_ixT (j := 1) h e q
theorem q_S2 (h : SqT K H a xs) (e : xs[2]? = some v) (q : Q v H) : rIxT K (.ref a) (.int 2) H Q := q_ixT (j := 2) h e q
theorem q_par3 {σ : L2.St} {D : Ends} {i j l : Nat} {ta : TA} (q : ta σ H fun vs H1 => ∃ u v w, vs = [u, v, w] ∧ D.nx (((σ.set i (some u)).set j (some v)).set l (some w)) H1) : tPar3 i j l ta D σ H := q
theorem q_three {u v w : V} {R : V → V → V → Prop} (q : R u v w) : ∃ u' v' w', [u, v, w] = [u', v', w'] ∧ R u' v' w' := ⟨u, v, w, rfl, q⟩
end
theorem q_mkO {C : Addr} {sp : Sp} {dvs : List V} {ta : TA} {σ : L2.St} {H : Hp} {R : XK} (q : ta σ H fun vs H1 => vs.length ≤ 1000 ∧ ∀ a, H1 a = none → sp (.ref a :: (vs ++ dvs)) (upd H1 a (exo a C none)) (fun u H2 => u = .non ∧ ∃ (d : Addr) (fs : List (Str × V)), H2 a = some (exo a C (some d)) ∧ H2 d = some (exd d fs) ∧ H1 d = none ∧ R (.ref C) (some d) (upd (del H2 a) d (.xd fs))) (fun _ _ _ => False)) : tMkO C sp dvs ta σ H R := q
def Way (K : PySem.W.Frag) (H : Hp) (v : V) (a b l : Int) : Prop := ∃ p, v = .ref p ∧ SqT K H p [.int a, .int b, .int l] ∧ 1 ≤ l ∧ l ≤ 1000 ∧ a * a + b * b = l * l
def Pl (K : PySem.W.Frag) (H : Hp) (v : V) (x y : Rat) : Prop := ∃ p vx vy, v = .ref p ∧ SqT K H p [vx, vy] ∧ NQ H vx x ∧ NQ H vy y
theorem Way.same {K : PySem.W.Frag} {H H' : Hp} {v : V} {a b l : Int} (h : Way K H v a b l) (s : Same H H') : Way K H' v a b l := by
  obtain ⟨p, h1, h2, h3⟩ := h
  exact ⟨p, h1, (sqt_same h2 s), h3⟩
theorem Way.go {K : PySem.W.Frag} {H H' : Hp} {v : V} {a b l n : Int} {bx : Addr} (h : Way K H v a b l) (B : Box H bx n) (s : Go bx H H') : Way K H' v a b l := by
  obtain ⟨p, h1, h2, h3⟩ := h
  exact ⟨p, h1, (sqt_go h2 B s), h3⟩
theorem Pl.same {K : PySem.W.Frag} {H H' : Hp} {v : V} {x y : Rat} (h : Pl K H v x y) (s : Same H H') : Pl K H' v x y := by
  obtain ⟨p, vx, vy, h1, h2, h3, h4⟩ := h
  exact ⟨p, vx, vy, h1, (sqt_same h2 s), h3.same s, h4.same s⟩
theorem Pl.go {K : PySem.W.Frag} {H H' : Hp} {v : V} {x y : Rat} {n : Int} {bx : Addr} (h : Pl K H v x y) (B : Box H bx n) (s : Go bx H H') : Pl K H' v x y := by
  obtain ⟨p, vx, vy, h1, h2, h3, h4⟩ := h
  exact ⟨p, vx, vy, h1, (sqt_go h2 B s), h3.go B s, h4.go B s⟩
theorem way_le {a b l : Int} (h0 : 1 ≤ l) (h1 : l ≤ 1000) (h : a * a + b * b = l * l) : (-1000 ≤ a ∧ a ≤ 1000) ∧ (-1000 ≤ b ∧ b ≤ 1000) := by
  have hl : l * l ≤ 1000 * 1000 := Int.mul_le_mul h1 h1 (by omega) (by decide)
  have sq : ∀ x y : Int, x * x + y * y ≤ 1000000 → -1000 ≤ x ∧ x ≤ 1000 := by
    intro x y hxy
    have hy : 0 ≤ y * y := by
      rcases Int.le_total 0 y with z | z
      · exact Int.mul_nonneg z z
      · exact Int.mul_nonneg_of_nonpos_of_nonpos z z
    constructor
    · rcases Int.lt_or_le x (-1000) with z | z
      · have := Int.mul_le_mul (show 1001 ≤ -x by omega) (show 1001 ≤ -x by omega) (by decide) (by omega)
        rw [Int.neg_mul_neg] at this
        omega
      · exact z
    · rcases Int.lt_or_le 1000 x with z | z
      · have := Int.mul_le_mul (show 1001 ≤ x by omega) (show 1001 ≤ x by omega) (by decide) (by omega)
        omega
      · exact z
  exact ⟨sq a b (by omega), sq b a (by omega)⟩
theorem bt11 {x : Int} (h : -1000 ≤ x ∧ x ≤ 1000) : Bt 11 x := ⟨by
  have : (2 : Nat) ^ 11 = 2048 := by decide
  rw [this]
  omega⟩
structure WayB (a b l : Int) : Prop where
  ba : Bt 11 a
  bb : Bt 11 b
  bl : Bt 11 l
  l0 : l ≠ 0
  lp : 1 ≤ l
  l1 : l ≤ 1000
  e : a * a + b * b = l * l
theorem Way.bd {K : PySem.W.Frag} {H : Hp} {v : V} {a b l : Int} (h : Way K H v a b l) : WayB a b l := by
  obtain ⟨p, _, _, h0, h1, h⟩ := h
  obtain ⟨ha, hb⟩ := way_le h0 h1 h
  exact ⟨bt11 ha, bt11 hb, bt11 (by omega), by omega, h0, h1, h⟩
def spIsPl (K : PySem.W.Frag) : Sp := fun vs H Q _ => ∃ v x y, vs = [v] ∧ Pl K H v x y ∧ ∀ H', Same H H' → Q (.bl true) H'
def spNeedPl (K : PySem.W.Frag) : Sp := fun vs H Q _ => ∃ v x y, vs = [v] ∧ Pl K H v x y ∧ ∀ H', Same H H' → Q .non H'
def spIsWhole : Sp := fun vs H Q _ => ∃ i lo hi, vs = [.int i, .int lo, .int hi] ∧ lo ≤ i ∧ i ≤ hi ∧ Q (.bl true) H
def spIsWay (K : PySem.W.Frag) : Sp := fun vs H Q _ => ∃ v a b l, vs = [v] ∧ Way K H v a b l ∧ Q (.bl true) H
def spNeedWay (K : PySem.W.Frag) : Sp := fun vs H Q _ => ∃ v a b l, vs = [v] ∧ Way K H v a b l ∧ Q .non H
def slid (x t : Rat) (a l : Int) : Rat := x + t * (a : Rat) / (l : Rat)
def spSlide (K : PySem.W.Frag) : Sp := fun vs H Q _ => ∃ v u w x y t a b l, vs = [v, u, w] ∧ Pl K H v x y ∧ NQ H u t ∧ Way K H w a b l ∧ BQ 600 x ∧ BQ 600 y ∧ BQ 600 t ∧ ∀ p H', Same H H' → Pl K H' (.ref p) (slid x t a l) (slid y t b l) → Q (.ref p) H'
def gain (a b c d : Int) : Int := a * c + b * d
def farr (t : Rat) (l m g : Int) : Rat := t * ((l * m : Int) : Rat) / (g : Rat)
def spMoved (K : PySem.W.Frag) (C : Addr) : Sp := fun vs H Q E => ∃ v u w z x y t a b l c d m, vs = [v, u, w, z] ∧ Pl K H v x y ∧ NQ H u t ∧ Way K H w a b l ∧ Way K H z c d m ∧ BQ 400 x ∧ BQ 400 y ∧ BQ 400 t ∧
  (gain a b c d ≠ 0 → ∀ p H', Same H H' → Pl K H' (.ref p) (slid x (farr t l m (gain a b c d)) a l) (slid y (farr t l m (gain a b c d)) b l) → Q (.ref p) H') ∧
  (gain a b c d = 0 → ∀ e p H', Same H H' → H e = none → H' p = some (.tup [w, z]) → H' e = some (.xd [("found", .ref p)]) → E (.ref C) (some e) H')
end HP
namespace HP
open PySem PySem.Spec PyProof.Rows L2
/-! .. of a law -/
def spSlope (K : PySem.W.Frag) : Sp := fun vs H Q _ => ∃ bx n, vs = [.ref bx] ∧ Box H bx n ∧ n < 900000 ∧ ∀ v a b l H', Way K H' v a b l → Go bx H H' → Box H' bx (n + 20) → Q v H'
def meas (x y : Rat) (a b l : Int) : Rat := (x * (a : Rat) + y * (b : Rat)) * (((1 : Int) : Rat) / (l : Rat))
def spMeasL (K : PySem.W.Frag) : Sp := fun vs H Q _ => ∃ v w x y a b l, vs = [v, w] ∧ Pl K H v x y ∧ Way K H w a b l ∧ BQ 700 x ∧ BQ 700 y ∧ ∀ u H', Same H H' → NQ H' u (meas x y a b l) → Q u H'
def spPlainPl (K : PySem.W.Frag) : Sp := fun vs H Q _ => ∃ v x y, vs = [v] ∧ Pl K H v x y ∧ BQ 900 x ∧ BQ 900 y ∧ ∀ H', Same H H' → Q (.bl true) H'
def spMovedR (K : PySem.W.Frag) : Sp := fun vs H Q _ => ∃ f v u w z x y t a b l c d m, vs = [f, v, u, w, z] ∧ gain a b c d ≠ 0 ∧ Pl K H f (slid x (farr t l m (gain a b c d)) a l) (slid y (farr t l m (gain a b c d)) b l) ∧ Pl K H v x y ∧ NQ H u t ∧ Way K H w a b l ∧ Way K H z c d m ∧
  BQ 130 x ∧ BQ 130 y ∧ BQ 130 t ∧ ∀ H', Same H H' → Q (.bl true) H'
def spRefused (K : PySem.W.Frag) : Sp := fun vs H Q _ => ∃ v u w z x y t a b l c d m, vs = [v, u, w, z] ∧ gain a b c d = 0 ∧ Pl K H v x y ∧ NQ H u t ∧ Way K H w a b l ∧ Way K H z c d m ∧ BQ 130 x ∧ BQ 130 y ∧ BQ 130 t ∧ ∀ H', Same H H' → Q (.bl true) H'
def spRight9 (K : PySem.W.Frag) : Sp := fun vs H Q _ => ∃ v u w z x y t a b l c d m, vs = [v, u, w, z] ∧ Pl K H v x y ∧ NQ H u t ∧ Way K H w a b l ∧ Way K H z c d m ∧ BQ 130 x ∧ BQ 130 y ∧ BQ 130 t ∧ ∀ H', Same H H' → Q (.bl true) H'
def spLeftOut (K : PySem.W.Frag) : Sp := fun vs H Q _ => ∃ v u w x y t a b l, vs = [v, u, w] ∧ Pl K H v x y ∧ NQ H u t ∧ Way K H w a b l ∧ BQ 130 x ∧ BQ 130 y ∧ BQ 130 t ∧ ∀ H', Same H H' → Q (.bl true) H'
theorem slid_meas {x y t : Rat} {a b l c d m : Int} (hl : l ≠ 0) (hm : m ≠ 0) (hg : gain a b c d ≠ 0) : meas (slid x (farr t l m (gain a b c d)) a l) (slid y (farr t l m (gain a b c d)) b l) c d m = meas x y c d m + t := by
  have h1 := int_ne hl
  have h2 := int_ne hm
  have h3 := int_ne hg
  have e : ((gain a b c d : Int) : Rat) = (a : Rat) * (c : Rat) + (b : Rat) * (d : Rat) := by
    unfold gain
    rw [Rat.intCast_add, Rat.intCast_mul, Rat.intCast_mul]
  unfold meas slid farr
  rw [Rat.intCast_mul, show ((1 : Int) : Rat) = 1 from rfl]
  generalize ((gain a b c d : Int) : Rat) = g at *
  grind
theorem slid_line {x y f : Rat} {a b l : Int} : (slid x f a l + x * ((0 - 1 : Int) : Rat)) * (b : Rat) = (slid y f b l + y * ((0 - 1 : Int) : Rat)) * (a : Rat) := by
  unfold slid
  rw [show ((0 - 1 : Int) : Rat) = -1 from rfl]
  grind
theorem slid_back {x t : Rat} {a l m g : Int} : slid (slid x (farr t l m g) a l) (farr (t * ((0 - 1 : Int) : Rat)) l m g) a l = x := by
  unfold slid farr
  rw [show ((0 - 1 : Int) : Rat) = -1 from rfl]
  grind
theorem bq_slid {x f : Rat} {n k : Nat} {a' l' : Int} (h : BQ n x) (hf : BQ k f) (ha : Bt 11 a') (hl : Bt 11 l') (h0 : l' ≠ 0) : BQ (n + (k + 11 + 11) + 1) (slid x f a' l') :=
  h.add ((hf.mul (BQ.int ha (by decide))).div (BQ.int hl (by decide)) (int_ne h0))
theorem bq_farr {t : Rat} {n : Nat} {l m a b c d : Int} (h : BQ n t) (hl : Bt 11 l) (hm : Bt 11 m) (ha : Bt 11 a) (hb : Bt 11 b) (hc : Bt 11 c) (hd : Bt 11 d) (hg : gain a b c d ≠ 0) : BQ (n + 22 + 23) (farr t l m (gain a b c d)) :=
  (h.mul (BQ.int (hl.mul hm) (by decide))).div (BQ.int (n := 23) ((ha.mul hc).add2 (hb.mul hd)) (by decide)) (int_ne hg)
/-- the data of places, of ways -/
def dP (x y : Rat) : PyData := .tuple [dN x.num (x.den : Int), dN y.num (y.den : Int)]
def dW (a b l : Int) : PyData := .tuple [.int a, .int b, .int l]
theorem Pl.dp {K : PySem.W.Frag} {H : Hp} {v : V} {x y : Rat} (h : Pl K H v x y) : Dp K H v (dP x y) := by
  obtain ⟨p, vx, vy, rfl, h1, h2, h3⟩ := h
  exact .tup h1 (.cons h2.dp (.cons h3.dp .nil))
theorem Way.dp {K : PySem.W.Frag} {H : Hp} {v : V} {a b l : Int} (h : Way K H v a b l) : Dp K H v (dW a b l) := by
  obtain ⟨p, rfl, h1, _⟩ := h
  exact .tup h1 (.cons (.int _) (.cons (.int _) (.cons (.int _) .nil)))
theorem gd_pl {x y : Rat} (h1 : BQ 1900 x) (h2 : BQ 1900 y) : GD (dP x y) 3 6 := by
  refine (gd_tuple (k := 2) (m := 2) ?_).mono (by decide) (by simp)
  intro d hd
  rcases List.mem_cons.mp hd with e | hd
  · rw [e]
    exact gd_num h1.t h1.b
  rcases List.mem_cons.mp hd with e | hd
  · rw [e]
    exact gd_num h2.t h2.b
  · cases hd
theorem gd_way {a b l : Int} (h1 : Bt 1900 a) (h2 : Bt 1900 b) (h3 : Bt 1900 l) : GD (dW a b l) 2 3 := by
  refine (gd_tuple (k := 1) (m := 0) ?_).mono (by decide) (by simp)
  intro d hd
  rcases List.mem_cons.mp hd with e | hd
  · rw [e]
    exact gd_int h1
  rcases List.mem_cons.mp hd with e | hd
  · rw [e]
    exact gd_int h2
  rcases List.mem_cons.mp hd with e | hd
  · rw [e]
    exact gd_int h3
  · cases hd
theorem q_eqGD {K : PySem.W.Frag} {H : Hp} {Q : VK} {u v : V} {d : PyData} {k m : Nat} (h1 : Dp K H u d) (h2 : Dp K H v d) (g : GD d k m) (hk : k ≤ 64) (q : Q (.bl true) H) : rEqD K u v H Q :=
  ⟨d, d, h1, h2, g.shaped hk, g.shaped hk, by rw [show PyData.eqv d d = true from SeqAt.eqv_refl _ g.c]; exact q⟩
theorem q_neGD {K : PySem.W.Frag} {H : Hp} {Q : VK} {u v : V} {d : PyData} {k m : Nat} (h1 : Dp K H u d) (h2 : Dp K H v d) (g : GD d k m) (hk : k ≤ 64) (q : Q (.bl false) H) : rNeD K u v H Q :=
  ⟨d, d, h1, h2, g.shaped hk, g.shaped hk, by rw [show PyData.eqv d d = true from SeqAt.eqv_refl _ g.c]; exact q⟩
end HP
namespace HP
open PySem PySem.Spec PyProof.Rows L2
theorem wayb {a b l : Int} (h : a * a + b * b = l * l) (h0 : 1 ≤ l) (h1 : l ≤ 1000) : WayB a b l := by
  obtain ⟨ha, hb⟩ := way_le h0 h1 h
  exact ⟨bt11 ha, bt11 hb, bt11 (by omega), by omega, h0, h1, h⟩
theorem WayB.way {K : PySem.W.Frag} {H : Hp} {p : Addr} {a b l : Int} (h : WayB a b l) (hp : SqT K H p [.int a, .int b, .int l]) : Way K H (.ref p) a b l := ⟨p, rfl, hp, h.lp, h.l1, h.e⟩
theorem sign_sq {x y l s1 s2 : Int} (e1 : s1 * s1 = 1) (e2 : s2 * s2 = 1) (h : x * x + y * y = l * l) : x * s1 * (x * s1) + y * s2 * (y * s2) = l * l := by
  rw [show x * s1 * (x * s1) = x * x * (s1 * s1) by ac_rfl, show y * s2 * (y * s2) = y * y * (s2 * s2) by ac_rfl, e1, e2, Int.mul_one, Int.mul_one]
  exact h
theorem thou {s : Int} (h1 : 1 ≤ s) (h2 : s ≤ 1000) : 0 < Int.fdiv 1000 s ∧ Int.fdiv 1000 s ≤ 1000 ∧ ∀ d, 0 ≤ d → d < Int.fdiv 1000 s → s * (1 + d) ≤ 1000 := by
  rw [Int.fdiv_eq_ediv_of_nonneg _ (by omega)]
  have hd := Int.mul_ediv_self_le (x := 1000) (k := s) (by omega)
  refine ⟨by have := (Int.le_ediv_iff_mul_le (show 0 < s by omega)).mpr (show 1 * s ≤ 1000 by omega); omega, Int.ediv_le_self _ (by decide), fun d _ h => ?_⟩
  exact Int.le_trans (Int.mul_le_mul_of_nonneg_left (show 1 + d ≤ 1000 / s by omega) (by omega)) hd
theorem sq_sum {m n : Int} (a : 2 ≤ m) (b : m ≤ 21) (c : 1 ≤ n) (d : n ≤ 19) : 1 ≤ m * m + n * n ∧ m * m + n * n ≤ 1000 := by
  have h1 := Int.mul_le_mul b b (by omega) (by decide)
  have h2 := Int.mul_le_mul d d (by omega) (by decide)
  have h3 := Int.mul_nonneg (show 0 ≤ m by omega) (show 0 ≤ m by omega)
  have h4 := Int.mul_pos (show 0 < n by omega) (show 0 < n by omega)
  omega
theorem bq_meas {x y : Rat} {n k : Nat} {a b l : Int} (h1 : BQ n x) (h2 : BQ k y) (w : WayB a b l) : BQ (n + 11 + (k + 11) + 1 + 11) (meas x y a b l) :=
  ((h1.mul (BQ.int w.ba (by decide))).add (h2.mul (BQ.int w.bb (by decide)))).mul (BQ.of ((⟨by decide⟩ : Bt 1 1).mono (by decide)) w.bl w.l0)
theorem slid_e {x t : Rat} : slid x (farr t 1 1 (gain 1 0 1 0)) 1 1 = x + t := by
  have e : farr t 1 1 (gain 1 0 1 0) = t := by
    unfold farr
    rw [show ((1 * 1 : Int) : Rat) = 1 from rfl, show ((gain 1 0 1 0 : Int) : Rat) = 1 from rfl]
    grind
  rw [e]
  unfold slid
  rw [show ((1 : Int) : Rat) = 1 from rfl]
  grind
theorem slid_0 {y f : Rat} {l : Int} : slid y f 0 l = y := by
  unfold slid
  rw [show ((0 : Int) : Rat) = 0 from rfl]
  grind
theorem gain_e {a b : Int} : gain a b 1 0 = a := by
  unfold gain
  omega
theorem gain_e' {a b : Int} : gain 1 0 a b = a := by
  unfold gain
  omega
end HP
namespace HP
theorem sq_nn (x : Int) : 0 ≤ x * x := by
  rcases Int.le_total 0 x with z | z
  · exact Int.mul_nonneg z z
  · exact Int.mul_nonneg_of_nonpos_of_nonpos z z
theorem pyth {m n k : Int} : ((if m * m - n * n < 0 then -(m * m - n * n) else m * m - n * n) * k) * ((if m * m - n * n < 0 then -(m * m - n * n) else m * m - n * n) * k) + (2 * m * n * k) * (2 * m * n * k) = ((m * m + n * n) * k) * ((m * m + n * n) * k) := by
  split <;> grind
end HP
namespace HP
open PySem PySem.Spec PyProof.Rows L2
theorem op_eqDs {X : Cx} {a : Addr} {l : List (Addr × Obj)} (hu : X.A.units + 64 < cLine) : OpR (X.suite a l) (compareOp .Eq) (rEqD X.K) := op_eqD (X := X.suite a l) hu
end HP
namespace HP
open PySem PySem.Spec PyProof.Rows L2
theorem q_xfV {i : Nat} {a C e : Addr} {f : Str} {σ : L2.St} {H : Hp} {Q : VK} {fs : List (Str × V)} {v : V} (hs : σ[i]? = some (some (.ref a))) (he : H e = some (.xd fs)) (hl : fs.lookup f = some v) (q : Q v H) : tXf a (.ref C) (some e) C f (tVar i) σ H Q :=
  ⟨.ref a, hs, rfl, rfl, e, fs, v, rfl, he, hl, q⟩
theorem gd_ways {a b l c d m : Int} (h1 : WayB a b l) (h2 : WayB c d m) : GD (.tuple [dW a b l, dW c d m]) 3 9 := by
  refine (gd_tuple (k := 2) (m := 3) ?_).mono (by decide) (by simp)
  intro e he
  rcases List.mem_cons.mp he with z | he
  · rw [z]
    exact gd_way (h1.ba.mono (by decide)) (h1.bb.mono (by decide)) (h1.bl.mono (by decide))
  rcases List.mem_cons.mp he with z | he
  · rw [z]
    exact gd_way (h2.ba.mono (by decide)) (h2.bb.mono (by decide)) (h2.bl.mono (by decide))
  · cases he
end HP
namespace HP
open PySem PySem.Spec PyProof.Rows L2
theorem q_Lat2 {K : PySem.W.Frag} {H : Hp} {Q : VK} {p : Addr} {u v : V} {c : Bool} (h : H p = some (.lst [u, v])) (q : ∀ w, w = u ∨ w = v → Q w H) : rIxL K (.ref p) (.int (if c = true then 1 else 0)) H Q := by
  cases c
  · exact q_ixL (j := 0) (SqL.of h) rfl (q _ (.inl rfl))
  · exact q_ixL (j := 1) (SqL.of h) rfl (q _ (.inr rfl))
end HP
namespace HP
open PySem PySem.Spec PyProof.Rows L2
/-! ### whole roots, calls of guarded defs, things that are ways or none -/
def rIsqrt : List V → Hp → VK → Prop := fun xs H Q => ∃ a : Int, xs = [.int a] ∧ 0 ≤ a ∧ a.toNat.log2 ≤ 13000 ∧ Q (.int ((Float64.isqrt a.toNat : Nat) : Int)) H
theorem cr_isqrt {X : Cx} : CallR X (.builtin "math.isqrt") rIsqrt := by
  intro pins s σ H vs us Q I r h
  obtain ⟨a, rfl, h0, h1, q⟩ := h
  obtain ⟨u, rfl, rx⟩ := vals1 r
  obtain ⟨t, rfl⟩ := (show ∃ t, u = Value.int a t from rx)
  exact PySem.call_function_meets PySem.W.MGF.kind_isqrt PySem.W.MGF.plain_isqrt PySem.W.MGF.entry_isqrt (PySem.W.MGF.args_isqrt _) (PySem.W.mg_run_isqrt a t (by omega) (by omega) (by omega)).meets ⟨.int _, H, I.tok _, ⟨_, rfl⟩, q⟩
theorem isq_fin : ∀ n : Fin 1001, Float64.isqrt (n.val * n.val) = n.val := by decide +kernel
theorem isq {l : Int} (h0 : 1 ≤ l) (h1 : l ≤ 1000) : ((Float64.isqrt (l * l).toNat : Nat) : Int) = l := by
  obtain ⟨n, rfl⟩ := Int.eq_ofNat_of_zero_le (show 0 ≤ l by omega)
  have e := isq_fin ⟨n, by omega⟩
  rw [show ((n : Int) * (n : Int)).toNat = n * n by rw [← Int.natCast_mul, Int.toNat_natCast]]
  exact_mod_cast e
structure CalG (P : Program) (w : World) (K : PySem.W.Frag) (mg : Str → Option Value) (base : Heap) (k : Nat) (x : Str) (ps : List Str) (sp : Sp) : Prop where
  ex : ∃ (f : Addr) (fd : FuncData), FnG P w K mg base k f fd ps (spN ps.length sp) ∧ mg x = some (.ref f) ∧ PySem.W.keepIn K (.ref f) = true ∧ Binds K fd ps []
theorem calGN {P : Program} {w : World} {K : PySem.W.Frag} {mg : Str → Option Value} {base : Heap} {x : Str} {st : Stmt} {f : Addr} {fd : FuncData} {ps : List Str} {k : Nat} {sp : Sp} (n : FnG P w K mg base k f fd ps (spN ps.length sp)) (g : mg x = some (.ref f)) (F : Fun K x x st f fd)
    (b : ∀ (kV doc pm : Value) (an : Option Addr) (cdv ct : Value) (us : List Value), us.length = ps.length → bindArgs (PySem.W.fnOf x x (defArgs st) (defBody st) (defScope st) .none kV doc pm an cdv ct) ⟨us, []⟩ = pure (ps.zip us)) : CalG P w K mg base k x ps sp :=
  ⟨f, fd, n, g, F.kp, F.binds b⟩
section
variable {X : Cx} {k j : Nat} {x : Str} {ps : List Str} {sp : Sp} {p pos : Pos} {e : Expr} {es : List Expr} {t : TA}
theorem pe_calG (C : CalG X.prog X.w X.K X.mg X.base k x ps sp) (hgd : X.A.guards = some []) (hr : Room j X.A) (hkj : k ≤ j) (hg : Gl X x) (ha : PA X (e :: es) t) (hdb : (x == ("__debug__" : Str)) = false := by decide)
    (he : starEach (e :: es) X.env = (false, eval e X.env) :: starEach es X.env := by rfl) (hpl : (backTo pos (starEach es X.env)).any (·.1) = false := by rfl) : PE X (.Call (.Name x p) (e :: es) [] pos) (tCal ps.length sp t) := by
  obtain ⟨f, fd, F, hm, hk, hb⟩ := C.ex
  refine ⟨fun pins s σ H Q I h => ?_⟩
  refine wpAny_Call_Name_kw (ld_glob I hg hm ?_ hdb)
  refine PySem.W.callWith_K (h₀ := X.base) I.ok.mod.kin hk (thn (ha.run pos pins s σ H _ I h) fun us s1 ⟨vs, H1, I1, r, q⟩ => ⟨I1.kIn, ?_⟩) he hpl
  have len := q.1
  refine wpAny_call (codeAny_mono (F.run X.A X.stack s1 H1 ⟨us, []⟩ us vs Q E0 hgd (hr.mono hkj) I1.env0 (by
    have z := hb s1 us I1.kIn (by rw [List.append_nil]; exact r.length.symm.trans len)
    rw [List.append_nil] at z
    exact z) r ⟨len, q.2⟩) fun res s' hq => ?_)
  match res, hq with
  | .error er, hq => exact False.elim hq
  | .ok (.ret u), hq => exact I1.after hq
  | .ok .next, hq => exact False.elim hq
  | .ok .brk, hq => exact False.elim hq
  | .ok .cont, hq => exact False.elim hq
end
theorem k_ss : kitB "str" "tuple" = some false := by decide +kernel
theorem k_nt : kitB "NoneType" "tuple" = some false := by decide +kernel
theorem k_dt : kitB "dict" "tuple" = some false := by decide +kernel
theorem k_lt : kitB "list" "tuple" = some false := by decide +kernel
theorem k_si : kitB "str" "int" = some false := by decide +kernel
theorem k_bi : kitB "bool" "int" = some true := by decide +kernel
theorem k_bb : kitB "bool" "bool" = some true := by decide +kernel
/-- what is no whole number -/
inductive Odd (K : PySem.W.Frag) (H : Hp) : V → PyData → Prop where
  | bl (b : Bool) : Odd K H (.bl b) (.bool b)
  | str (s : Str) (ok : PyData.canLay0 (.str s) = true) : Odd K H (.str s) (.str s)
  | tup {p : Addr} {a b : Int} (h : SqT K H p [.int a, .int b]) : Odd K H (.ref p) (.tuple [.int a, .int b])
def IO (K : PySem.W.Frag) (H : Hp) (v : V) : Prop := (∃ i, v = .int i) ∨ ∃ d, Odd K H v d
def spIsIntG (K : PySem.W.Frag) : Sp := fun vs H Q _ => ∃ v, vs = [v] ∧ ((∃ i, v = .int i ∧ Q (.bl true) H) ∨ ∃ d, Odd K H v d ∧ Q (.bl false) H)
theorem q_isintG {K : PySem.W.Frag} {i : Int} {H : Hp} {Q : VK} {E : XK} (q : Q (.bl true) H) : spIsIntG K [.int i] H Q E := ⟨_, rfl, .inl ⟨i, rfl, q⟩⟩
def spIsWholeG (K : PySem.W.Frag) : Sp := fun vs H Q _ => ∃ v lo hi, vs = [v, .int lo, .int hi] ∧ ((∃ i, v = .int i ∧ Q (.bl (decide (lo ≤ i ∧ i ≤ hi))) H) ∨ ∃ d, Odd K H v d ∧ Q (.bl false) H)
/-- a thing, and whether it is a way -/
inductive WT (K : PySem.W.Frag) (H : Hp) : V → Bool → Prop where
  | tri {p : Addr} {a b l : Int} (h : SqT K H p [.int a, .int b, .int l]) (ba : Bt 500 a) (bb : Bt 500 b) : WT K H (.ref p) (decide (1 ≤ l ∧ l ≤ 1000 ∧ a * a + b * b = l * l))
  | odd {p : Addr} {u1 u2 u3 : V} (h : SqT K H p [u1, u2, u3]) (k1 : IO K H u1) (k2 : IO K H u2) (k3 : IO K H u3) (o : (∃ d, Odd K H u1 d) ∨ (∃ d, Odd K H u2 d) ∨ ∃ d, Odd K H u3 d) : WT K H (.ref p) false
  | few {p : Addr} {xs : List V} (h : SqT K H p xs) (n : xs.length ≠ 3) : WT K H (.ref p) false
  | nt {v : V} {n : String} (t : TyX K H v (.type n)) (e : kitB n "tuple" = some false) : WT K H v false
theorem odd_int {K : PySem.W.Frag} {H : Hp} {i : Int} {d : PyData} (h : Odd K H (.int i) d) : False := by cases h
def spIsWayG (K : PySem.W.Frag) : Sp := fun vs H Q _ => ∃ v c, vs = [v] ∧ WT K H v c ∧ Q (.bl c) H
theorem Way.wt {K : PySem.W.Frag} {H : Hp} {v : V} {a b l : Int} (h : Way K H v a b l) : WT K H v true := by
  have w := h.bd
  obtain ⟨p, rfl, h1, h2, h3, h4⟩ := h
  have := WT.tri h1 (w.ba.mono (by decide)) (w.bb.mono (by decide))
  rw [decide_eq_true ⟨h2, h3, h4⟩] at this
  exact this
def spHasWay (K : PySem.W.Frag) : Sp := fun vs H Q _ => ∃ a b, vs = [.int a, .int b] ∧ Bt 200 a ∧ Bt 200 b ∧ ((∃ l, WayB a b l) → ∀ H', Same H H' → Q (.bl true) H') ∧ ((∀ l, ¬ WayB a b l) → ∀ H', Same H H' → Q (.bl false) H')
def spWayOf (K : PySem.W.Frag) (C : Addr) : Sp := fun vs H Q E => ∃ a b, vs = [.int a, .int b] ∧ Bt 200 a ∧ Bt 200 b ∧
  (∀ l, WayB a b l → ∀ p H', Same H H' → H' p = some (.tup [.int a, .int b, .int l]) → Q (.ref p) H') ∧
  ((∀ l, ¬ WayB a b l) → ∀ e p H', Same H H' → H e = none → H' p = some (.tup [.int a, .int b]) → H' e = some (.xd [("found", .ref p)]) → E (.ref C) (some e) H')
def spMeasP (K : PySem.W.Frag) : Sp := fun vs H Q _ => ∃ v w x y a b l, vs = [v, w] ∧ Pl K H v x y ∧ Way K H w a b l ∧ BQ 700 x ∧ BQ 700 y ∧ ∀ u H', Same H H' → NQ H' u ((x * (a : Rat) + y * (b : Rat)) / (l : Rat)) → Q u H'
def spLong : Sp := fun vs H Q _ => ∃ a b, vs = [.int a, .int b] ∧ Bt 200 a ∧ Bt 200 b ∧ (∀ l H', WayB a b l → Same H H' → Q (.int l) H') ∧ ((∀ l, ¬ WayB a b l) → ∀ H', Same H H' → Q .non H')
def spWayRight : Sp := fun vs H Q _ => ∃ a b, vs = [.int a, .int b] ∧ Bt 150 a ∧ Bt 150 b ∧ ∀ H', Same H H' → Q (.bl true) H'
def spNoWay8 (K : PySem.W.Frag) : Sp := fun vs H Q _ => ∃ bx n v a b l, vs = [.ref bx, v] ∧ Box H bx n ∧ n < 800000 ∧ Way K H v a b l ∧ ∀ H', Go bx H H' → Box H' bx (n + 1) → Q (.bl true) H'
def spSlid8 (K : PySem.W.Frag) : Sp := fun vs H Q _ => ∃ v u w x y t a b l, vs = [v, u, w] ∧ Pl K H v x y ∧ NQ H u t ∧ Way K H w a b l ∧ BQ 150 x ∧ BQ 150 y ∧ BQ 150 t ∧ ∀ p H', Same H H' → Pl K H' (.ref p) (slid x t a l) (slid y t b l) → Q (.ref p) H'
def spPlIs (K : PySem.W.Frag) : Sp := fun vs H Q _ => ∃ v w x y, vs = [v, w] ∧ Pl K H v x y ∧ Pl K H w x y ∧ ∀ H', Same H H' → Q (.bl true) H'
def spRight8 (K : PySem.W.Frag) : Sp := fun vs H Q _ => ∃ v u w z x y t a b l c d m, vs = [v, u, w, z] ∧ Pl K H v x y ∧ NQ H u t ∧ Way K H w a b l ∧ Way K H z c d m ∧ BQ 130 x ∧ BQ 130 y ∧ BQ 130 t ∧ ∀ H', Same H H' → Q (.bl true) H'
end HP
namespace HP
open PySem PySem.Spec PyProof.Rows L2
def rReprB : List V → Hp → VK → Prop := fun xs H Q => ∃ b : Bool, xs = [.bl b] ∧ Q (.str (if b then "True" else "False")) H
theorem call_reprB {X : Cx} : CallR X (.builtin "repr") rReprB := by
  intro pins s σ H xs us Q I r h
  obtain ⟨b, rfl, q⟩ := h
  obtain ⟨u, rfl, rx⟩ := vals1 r
  cases (show u = Value.bool b from rx)
  exact PySem.P.repr_of_bool ⟨.str _, H, I.tok _, ⟨_, rfl⟩, q⟩
theorem q_reprb {b : Bool} {H : Hp} {Q : VK} (q : Q (.str (if b then "True" else "False")) H) : rReprB [.bl b] H Q := ⟨b, rfl, q⟩
theorem q_eqS {H : Hp} {Q : VK} {x : Str} (q : Q (.bl true) H) : rEq (.str x) (.str x) H Q := ⟨rfl, by rw [decide_eq_true rfl]; exact q⟩
theorem meas_eq {x y : Rat} {a b l : Int} : (x * (a : Rat) + y * (b : Rat)) / (l : Rat) = meas x y a b l := by
  unfold meas
  rw [show ((1 : Int) : Rat) = 1 from rfl]
  grind
theorem slid_each {x t : Rat} {a l : Int} : x + t * (((1 : Int) : Rat) / (l : Rat)) * (a : Rat) = slid x t a l := by
  unfold slid
  rw [show ((1 : Int) : Rat) = 1 from rfl]
  grind
theorem slid_1 {x t : Rat} : slid x t 1 1 = x + t := by
  unfold slid
  rw [show ((1 : Int) : Rat) = 1 from rfl]
  grind
theorem meas_slid {x y t : Rat} {a b l : Int} (w : WayB a b l) : meas (slid x t a l) (slid y t b l) a b l = meas x y a b l + t := by
  have h1 := int_ne w.l0
  have e : (a : Rat) * (a : Rat) + (b : Rat) * (b : Rat) = (l : Rat) * (l : Rat) := by exact_mod_cast w.e
  unfold meas slid
  rw [show ((1 : Int) : Rat) = 1 from rfl]
  grind
theorem sq_inj {l m : Int} (h1 : 1 ≤ l) (h2 : l < m) (h : l * l = m * m) : False := by
  have := Int.mul_lt_mul h2 (Int.le_of_lt h2) (by omega) (by omega)
  omega
theorem q_isN {H : Hp} {Q : VK} {v : V} (q : Q (.bl (decide (v = .non))) H) : (fun x y (H : Hp) (Q : VK) => y = V.non ∧ Q (.bl (decide (x = .non))) H) v .non H Q := ⟨rfl, q⟩
end HP
namespace HP
open PySem PySem.Spec PyProof.Rows L2
def rIsN : R2 := fun x y H Q => y = .non ∧ Q (.bl (decide (x = .non))) H
theorem op_isNn {X : Cx} : OpR X (compareOp .Is) rIsN := op_isN
theorem q_isNI {H : Hp} {Q : VK} {i : Int} (q : Q (.bl false) H) : rIsN (.int i) .non H Q := ⟨rfl, by rw [decide_eq_false (by intro z; cases z)]; exact q⟩
theorem q_isNR {H : Hp} {Q : VK} {a : Addr} (q : Q (.bl false) H) : rIsN (.ref a) .non H Q := ⟨rfl, by rw [decide_eq_false (by intro z; cases z)]; exact q⟩
theorem q_isNN {H : Hp} {Q : VK} (q : Q (.bl true) H) : rIsN .non .non H Q := ⟨rfl, by rw [decide_eq_true rfl]; exact q⟩
theorem pe_globR {X : Cx} {x : Str} {a : Addr} {pos : Pos} (hg : Gl X x) (h : X.mg x = some (.ref a)) (hd : (x == ("__debug__" : Str)) = false := by decide) : PE X (.Name x pos) (tC (.ref a)) := pe_glob hg h rfl hd
theorem q_dnew {H : Hp} {Q : VK} {σ : L2.St} (q : ∀ p, H p = none → Q (.ref p) (upd H p (.dK []))) : tDNewK σ H Q := q
def rStrI : List V → Hp → VK → Prop := fun xs H Q => ∃ i : Int, xs = [.int i] ∧ i.natAbs.log2 < 1920 ∧ Q (.str (toString i)) H
theorem call_strI {X : Cx} : CallR X (.type "str") rStrI := call_str_int
theorem q_strI {H : Hp} {Q : VK} {i : Int} (h : Bt 1900 i) (q : Q (.str (toString i)) H) : rStrI [.int i] H Q := ⟨i, rfl, by have := h.log; omega, q⟩
end HP
namespace HP
open PySem PySem.Spec PyProof.Rows L2
theorem q_isqrt {i : Int} {H : Hp} {Q : VK} (h0 : 0 ≤ i) (h : Bt 900 i) (q : Q (.int ((Float64.isqrt i.toNat : Nat) : Int)) H) : rIsqrt [.int i] H Q := ⟨i, rfl, h0, by
  have e : i.toNat = i.natAbs := by omega
  have := h.log
  rw [e]
  omega, q⟩
end HP
namespace HP
open PySem PySem.Spec PyProof.Rows L2
theorem wayb_u {a b l m : Int} (h : WayB a b l) (k : WayB a b m) : l = m := by
  have e := h.e.symm.trans k.e
  rcases Int.lt_trichotomy l m with z | z | z
  · exact (sq_inj h.lp z e).elim
  · exact z
  · exact (sq_inj k.lp z e.symm).elim
theorem gd_ii {a b : Int} (h1 : Bt 1900 a) (h2 : Bt 1900 b) : GD (.tuple [.int a, .int b]) 2 3 := by
  refine (gd_tuple (k := 1) (m := 0) ?_).mono (by decide) (by simp)
  intro d hd
  rcases List.mem_cons.mp hd with e | hd
  · rw [e]
    exact gd_int h1
  rcases List.mem_cons.mp hd with e | hd
  · rw [e]
    exact gd_int h2
  · cases hd
theorem dp_ii {K : PySem.W.Frag} {H : Hp} {p : Addr} {a b : Int} (h : SqT K H p [.int a, .int b]) : Dp K H (.ref p) (.tuple [.int a, .int b]) := .tup h (.cons (.int _) (.cons (.int _) .nil))
end HP
namespace HP
open PySem PySem.Spec PyProof.Rows L2
theorem q_isiT3 {K : PySem.W.Frag} {H : Hp} {Q : VK} {x : V} {n : String} {tp : Addr} {b1 b2 b3 : Bool} (ty : TyX K H x (.type n)) (ht : H tp = some (.tup [.ty "bool", .ty "str", .ty "tuple"])) (e1 : kitB n "bool" = some b1) (e2 : kitB n "str" = some b2) (e3 : kitB n "tuple" = some b3) (q : Q (.bl (b1 || (b2 || b3))) H) : rIsiT K [x, .ref tp] H Q := by
  refine ⟨x, tp, _, _, _, _, rfl, ht, .cons (.ty _) (.cons (.ty _) (.cons (.ty _) .nil)), ty, ?_, q⟩
  unfold PySem.W.kitAny
  rw [kit_ty e1]
  cases b1
  · unfold PySem.W.kitAny
    rw [kit_ty e2]
    cases b2
    · unfold PySem.W.kitAny
      rw [kit_ty e3]
      cases b3
      · rfl
      · rfl
    · rfl
  · rfl
theorem kt_b1 : kitB "bool" "bool" = some true := by decide +kernel
theorem kt_b2 : kitB "bool" "str" = some false := by decide +kernel
theorem kt_b3 : kitB "bool" "tuple" = some false := by decide +kernel
theorem kt_i1 : kitB "int" "bool" = some false := by decide +kernel
theorem kt_i2 : kitB "int" "str" = some false := by decide +kernel
theorem kt_i3 : kitB "int" "tuple" = some false := by decide +kernel
theorem kt_s1 : kitB "str" "bool" = some false := by decide +kernel
theorem kt_s2 : kitB "str" "str" = some true := by decide +kernel
theorem kt_s3 : kitB "str" "tuple" = some false := by decide +kernel
theorem kt_t1 : kitB "tuple" "bool" = some false := by decide +kernel
theorem kt_t2 : kitB "tuple" "str" = some false := by decide +kernel
theorem kt_t3 : kitB "tuple" "tuple" = some true := by decide +kernel
theorem q_odd3 {K : PySem.W.Frag} {H : Hp} {Q : VK} {x : V} {d : PyData} {tp : Addr} (o : Odd K H x d) (ht : H tp = some (.tup [.ty "bool", .ty "str", .ty "tuple"])) (q : Q (.bl true) H) : rIsiT K [x, .ref tp] H Q := by
  cases o with
  | bl b => exact q_isiT3 (.base (.bl b)) ht kt_b1 kt_b2 kt_b3 q
  | str s ok => exact q_isiT3 (.base (.str s)) ht kt_s1 kt_s2 kt_s3 q
  | tup h => exact q_isiT3 (sqt_ty h) ht kt_t1 kt_t2 kt_t3 q
theorem q_int3 {K : PySem.W.Frag} {H : Hp} {Q : VK} {i : Int} {tp : Addr} (ht : H tp = some (.tup [.ty "bool", .ty "str", .ty "tuple"])) (q : Q (.bl false) H) : rIsiT K [.int i, .ref tp] H Q := q_isiT3 (.base (.int i)) ht kt_i1 kt_i2 kt_i3 q
theorem Odd.dp {K : PySem.W.Frag} {H : Hp} {x : V} {d : PyData} (o : Odd K H x d) : Dp K H x d := by
  cases o with
  | bl b => exact .bl b
  | str s ok => exact .str s
  | tup h => exact dp_ii h
theorem Odd.same {K : PySem.W.Frag} {H H' : Hp} {x : V} {d : PyData} (o : Odd K H x d) (s : Same H H') : Odd K H' x d := by
  cases o with
  | bl b => exact .bl b
  | str s ok => exact .str s ok
  | tup h => exact .tup (sqt_same h s)
theorem Odd.sh {K : PySem.W.Frag} {H : Hp} {x : V} {d : PyData} (o : Odd K H x d) : d.canLay0 = true ∧ d.depth ≤ 2 := by
  cases o with
  | bl b => exact ⟨rfl, by simp [PyData.depth]⟩
  | str s ok => exact ⟨ok, by simp [PyData.depth]⟩
  | tup h => exact ⟨rfl, by simp [PyData.depth, PyData.depthAll]⟩
theorem odds_shaped {ds : List PyData} (h : ∀ d ∈ ds, d.canLay0 = true ∧ d.depth ≤ 2) : SeqAt.shaped (.list ds) = true := by
  have h1 : ∀ ds : List PyData, (∀ d ∈ ds, d.canLay0 = true ∧ d.depth ≤ 2) → PyData.canLayAll0 ds = true ∧ PyData.depthAll ds ≤ 2 := by
    intro ds
    induction ds with
    | nil => exact fun _ => ⟨rfl, by simp [PyData.depthAll]⟩
    | cons d ds ih =>
      intro h
      obtain ⟨a, b⟩ := ih fun x hx => h x (List.mem_cons_of_mem _ hx)
      obtain ⟨c, e⟩ := h d List.mem_cons_self
      refine ⟨by simp [PyData.canLayAll0, a, c], ?_⟩
      simp only [PyData.depthAll]
      omega
  obtain ⟨a, b⟩ := h1 ds h
  unfold SeqAt.shaped
  rw [Bool.and_eq_true, decide_eq_true_eq]
  refine ⟨by simpa only [PyData.canLay0] using a, ?_⟩
  simp only [PyData.depth]
  omega
theorem eqv_nil (ds : List PyData) : PyData.eqv (.list ds) (.list []) = decide (ds = []) := by
  cases ds with
  | nil => rfl
  | cons d ds => simp [PyData.eqv, PyData.eqvAll]
theorem str_lay {i : Int} (h : Bt 11 i) : PyData.canLay0 (.str (toString i)) = true := by
  have h1 := h.lt
  have e : i.natAbs < 2048 := h1
  have all : ∀ n : Fin 2048, PyData.canLay0 (.str (toString (n.val : Int))) = true ∧ PyData.canLay0 (.str (toString (-(n.val : Int)))) = true := by decide +kernel
  obtain ⟨a1, a2⟩ := all ⟨i.natAbs, e⟩
  rcases Int.le_total 0 i with z | z
  · rw [show ((i.natAbs : Nat) : Int) = i by omega] at a1
    exact a1
  · rw [show -((i.natAbs : Nat) : Int) = i by omega] at a2
    exact a2
end HP
namespace HP
open PySem PySem.Spec PyProof.Rows L2
theorem call_isiTK {X : Cx} {K : PySem.W.Frag} (h : X.K = K) : CallR X (.builtin "isinstance") (rIsiT K) := h ▸ call_isiT
end HP
namespace HP
open PySem PySem.Spec PyProof.Rows L2
theorem tyx_same {K : PySem.W.Frag} {H H' : Hp} {v : V} {n : String} (t : TyX K H v (.type n)) (s : Same H H') : TyX K H' v (.type n) := by
  cases t with
  | base h =>
    refine .base ?_
    cases h with
    | non => exact .non
    | bl x => exact .bl x
    | int i => exact .int i
    | str x => exact .str x
    | flt x => exact .flt x
    | lst e => exact .lst (s _ _ e)
    | frz e => exact .frz (s _ _ e)
    | tup e => exact .tup (s _ _ e)
    | dK e => exact .dK (s _ _ e)
    | dT e => exact .dT (s _ _ e)
  | byt b => exact .byt b
  | set e => exact .set (s _ _ e)
  | kList e c => exact .kList e c
  | kTuple e c => exact .kTuple e c
  | kDict e c => exact .kDict e c
  | fTuple e => exact .fTuple (s _ _ e)
  | fDict e => exact .fDict (s _ _ e)
theorem IO.same {K : PySem.W.Frag} {H H' : Hp} {v : V} (h : IO K H v) (s : Same H H') : IO K H' v := h.imp id fun ⟨d, o⟩ => ⟨d, o.same s⟩
/-- a list's own change moves no tuple -/
theorem Odd.put {K : PySem.W.Frag} {H H' : Hp} {x : V} {d : PyData} {D : Addr} {vs : List V} (o : Odd K H x d) (hD : H D = some (.lst vs)) (s : ∀ c, c ≠ D → ∀ o, H c = some o → H' c = some o) : Odd K H' x d := by
  cases o with
  | bl b => exact .bl b
  | str s ok => exact .str s ok
  | @tup p a b h =>
    refine .tup ?_
    rcases h with (h | ⟨o, h⟩) | h
    · exact .inl (.inl (s _ (fun z => by rw [z, hD] at h; cases h) _ h))
    · exact .inl (.inr ⟨o, s _ (fun z => by rw [z, hD] at h; cases h) _ h⟩)
    · exact .inr h
/-- .. with what each is -/
inductive OddL (K : PySem.W.Frag) (H : Hp) : List V → List PyData → Prop where
  | nil : OddL K H [] []
  | cons {v : V} {d : PyData} {vs : List V} {ds : List PyData} : Odd K H v d → OddL K H vs ds → OddL K H (v :: vs) (d :: ds)
end HP
namespace HP
open PySem PySem.Spec PyProof.Rows L2
abbrev Odds := OddL
theorem OddL.dp {K : PySem.W.Frag} {H : Hp} : ∀ {vs : List V} {ds : List PyData}, OddL K H vs ds → DpAll K H vs ds
  | _, _, .nil => .nil
  | _, _, .cons h t => .cons h.dp t.dp
theorem OddL.sh {K : PySem.W.Frag} {H : Hp} : ∀ {vs : List V} {ds : List PyData}, OddL K H vs ds → ∀ d ∈ ds, d.canLay0 = true ∧ d.depth ≤ 2
  | _, _, .nil => nofun
  | _, _, .cons h t => fun d hd => by
    rcases List.mem_cons.mp hd with e | hd
    · rw [e]
      exact h.sh
    · exact t.sh d hd
theorem OddL.same {K : PySem.W.Frag} {H H' : Hp} (s : Same H H') : ∀ {vs : List V} {ds : List PyData}, OddL K H vs ds → OddL K H' vs ds
  | _, _, .nil => .nil
  | _, _, .cons h t => .cons (h.same s) (OddL.same s t)
theorem OddL.put {K : PySem.W.Frag} {H H' : Hp} {D : Addr} {ws : List V} (hD : H D = some (.lst ws)) (s : ∀ c, c ≠ D → ∀ o, H c = some o → H' c = some o) : ∀ {vs : List V} {ds : List PyData}, OddL K H vs ds → OddL K H' vs ds
  | _, _, .nil => .nil
  | _, _, .cons h t => .cons (h.put hD s) (OddL.put hD s t)
theorem OddL.snoc {K : PySem.W.Frag} {H : Hp} {v : V} {d : PyData} : ∀ {vs : List V} {ds : List PyData}, OddL K H vs ds → Odd K H v d → OddL K H (vs ++ [v]) (ds ++ [d])
  | _, _, .nil, o => .cons o .nil
  | _, _, .cons h t, o => .cons h (OddL.snoc t o)
end HP
namespace HP
open PySem PySem.Spec PyProof.Rows L2 HotX L2H
/-! ### while an exception is handled: two names at once -/
section
variable {prog : Program} {w : World} {A : Around} {E : Value → Shared → Prop} {s : Shared}
theorem tuple_over_hot {it t x1 : Addr} {i : Nat} {items : Array Value} {Q : Option Value → Shared → Prop} (hot : HotAt A x1 s.heap)
    (hit : IsTupIter s.heap it t i) (ht : IsTup s.heap t items) (hx : items[i]? = none)
    (hQ : ∀ h', Heap.ExtBut it s.heap h' → Q none { s with heap := h' }) (hne : x1 ≠ it) : wpAny (model prog w) A (pyNext (.ref it)) Q E s := by
  obtain ⟨o, ho, hc, hd⟩ := id hit
  obtain ⟨ol, hol, _, nl, hdl⟩ := ht
  obtain ⟨hh, o1, vs1, h1, d1, c1⟩ := hot
  unfold pyNext
  refine wpAny_bind (wpAny_attempt (wpAny_callSpecial?_slot (name := Str.ofString "__next__") hit.typeIs slot_tupleiter_next
    (wpAny_call_entry slot_tupleiter_next hit.typeIs entry_tupleiter_next ?_ (args_tupleiter_next _))))
  show wpAny _ _ (field (.ref it) 0 >>= _) _ _ s
  refine wpAny_bind (wpAny_field ho hd (x := .ref t) rfl ?_)
  show wpAny _ _ (if (Value.ref t == Value.none) = true then _ else _) _ _ s
  rw [if_neg (show ¬ ((Value.ref t == Value.none) = true) from Bool.false_ne_true)]
  show wpAny _ _ (field (.ref it) 1 >>= _) _ _ s
  refine wpAny_bind (wpAny_field ho hd (x := .int i 0) rfl ?_)
  show wpAny _ _ (seqItems? (.ref t) >>= _) _ _ s
  refine wpAny_bind (wpAny_seqItems hol hdl ?_)
  simp only [Int.toNat_natCast, hx]
  refine wpAny_bind (wpAny_rule (wpAny_bind (wpAny_setField ho hd (by simp) ?_)))
  refine wpAny_bind ?_
  show wpAny _ _ (newExc (.type "StopIteration") [] >>= _) _ _ _
  refine wpAny_bind ?_
  simp only [newExc, newTuple]
  refine wpAny_bind (wpAny_newObj_type ?_ (by size_fits))
  refine wpAny_bind (m := firstArgMember _ _) (wpAny_of_eq (a := Value.none) (by first | rfl | (simp only [firstArgMember]; rfl)) ?_)
  refine wpAny_newObj_type ?_ (by size_fits)
  refine wpAny_pure ?_
  have hu : (s.heap.update it (Obj.mapFields fun x => x.setIfInBounds 0 Value.none)).get? x1 = some o1 := by
    rw [Heap.get?_update_other _ _ (by first | exact hne | exact Ne.symm hne)]
    exact h1
  have hp := Heap.get?_push_of_some { cls := Value.type "tuple", data := Data.seq #[] } hu
  refine raiseNew_hot ⟨hh, o1, vs1, Heap.get?_push_of_some _ hp, d1, c1⟩ (Nat.ne_of_lt (Heap.lt_size hp)) (Heap.get?_push_size _ rfl) rfl (by first | (simp; done) | (simp; omega) | (simp only [Array.size_append]; simp; omega)) ?_
  refine wpAny_bind (wpAny_isInstance (T := "StopIteration") (b := true) ⟨_, Heap.get?_update_self _ (Heap.get?_push_size _ rfl) rfl, rfl⟩ isSubtype_stop ?_)
  refine wpAny_pure (hQ _ fun b o hb e => ?_)
  have e1 : (s.heap.update it (Obj.mapFields fun x => x.setIfInBounds 0 Value.none)).get? b = some o := by
    rw [Heap.get?_update_other _ _ (by first | exact hb | exact Ne.symm hb)]
    exact e
  have e2 := Heap.get?_push_of_some { cls := Value.type "tuple", data := Data.seq #[] } e1
  rw [Heap.get?_update_other _ _ (Nat.ne_of_gt (Heap.lt_size e2))]
  exact Heap.get?_push_of_some _ e2
theorem unpack_hot {t x1 : Addr} {items : Array Value} {Q : List Value → Shared → Prop} (hot : HotAt A x1 s.heap) (ht : IsTup s.heap t items)
    (hQ : ∀ h', Heap.ExtBut s.heap.objs.size s.heap h' → Q items.toList { s with heap := h' }) : wpAny (model prog w) A (unpackItems (.ref t) items.size none) Q E s := by
  have hlt : t ≠ s.heap.objs.size := by obtain ⟨o, ho, _⟩ := ht; exact Nat.ne_of_lt (Heap.lt_size ho)
  obtain ⟨hh, o1, vs1, h1, d1, c1⟩ := hot
  have hne : x1 ≠ s.heap.objs.size := Nat.ne_of_lt (Heap.lt_size h1)
  unfold unpackItems
  refine wpAny_bind ?_
  unfold notIterableAtAll
  refine wpAny_bind (wpAny_specialOf ht.typeIs slot_tuple_iter.lookup ?_)
  refine wpAny_pure ?_
  simp only [Bool.false_eq_true, if_false]
  refine wpAny_bind (wpAny_holding (iter_tuple ht ?_))
  refine wpAny_bind (wpAny_holding (draw_tuple hlt items.size 0 _ _ ⟨_, Heap.get?_push_size _ rfl, rfl, rfl⟩ (ht.push _) (by omega) fun h₁ hit₁ hs₁ => ?_))
  have hall : List.take items.size (List.drop 0 items.toList) = items.toList := by
    rw [List.drop_zero]; exact List.take_of_length_le (by simp)
  rw [hall]
  rw [if_neg (by simp)]
  have ht₁ : IsTup h₁ t items := (ht.push _).extBut hs₁.extBut hlt
  have hx1 : h₁.get? x1 = some o1 := hs₁.extBut x1 o1 hne (Heap.get?_push_of_some _ h1)
  refine wpAny_bind (wpAny_holding (tuple_over_hot ⟨hh, o1, vs1, hx1, d1, c1⟩ hit₁ ht₁ (by simp) (fun h₂ he₂ => ?_) hne))
  simp only [Option.isSome_none, Bool.false_eq_true, if_false]
  refine wpAny_pure (hQ h₂ fun b o hb e => he₂ b o hb (hs₁.extBut b o hb (Heap.get?_push_of_some _ e)))
end
theorem ps_parH {X : Cx} {i j : Nat} {x y : Str} {a b : Expr} {ta : TA} {px py pt pos : Pos} {kt k2 pt2} (hot : HotC X) (hN : X.N.Nodup) (hi : X.N[i]? = some x) (hj : X.N[j]? = some y) (hij : i ≠ j)
    (hx : X.env.scope.names.lookup x = some .local) (hy : X.env.scope.names.lookup y = some .local) (ha : PA X [a, b] ta)
    (hw : swappedStores [.Tuple [.Name x px, .Name y py] kt pt] (.Tuple [a, b] k2 pt2) X.env = pure (some [x, y]))
    (hs : swapsWithSole [.Tuple [.Name x px, .Name y py] kt pt] (.Tuple [a, b] k2 pt2) pos.line X.env = pure false := by rfl) :
    PS X (.Assign [.Tuple [.Name x px, .Name y py] kt pt] (.Tuple [a, b] k2 pt2) pos) (tPar i j ta) := by
  refine ⟨fun pins s σ H D I h => ?_⟩
  rw [exec_Assign_arm]
  refine wpAny_bind (wpAny_standAt ?_)
  rw [hs]
  refine wpAny_bind (wpAny_pure ?_)
  rw [if_neg (by decide)]
  refine wpAny_bind (Tuple_ (thn (ha.run _ pins s σ H _ I h) fun us s1 ⟨vs, H1, I1, r1, q1⟩ => ?_))
  obtain ⟨v, w, e1, q1⟩ := q1
  subst e1
  obtain ⟨u1, u2, rfl, rv, rw'⟩ := vals2 r1
  refine wpAny_newObj_type ?_ (by show 2 ≤ sizeLine; decide)
  have I2 : Inv X pins σ H1 { s1 with heap := s1.heap.push { cls := .type "tuple", data := .seq [u1, u2].toArray } } := I1.kept (t' := s1.toks) fun b o e => Heap.get?_push_of_some _ e
  rw [hw]
  refine wpAny_bind (wpAny_pure ?_)
  show wpAny (model X.prog X.w) X.A (do rule "assign.swapped-stores"; let items ← unpackItems (.ref s1.heap.objs.size) 2 none; assignInOrder [fun v => bindName X.env y v, fun v => bindName X.env x v] items.reverse; pure Flow.next) _ _ _
  obtain ⟨x1, hat⟩ := hot.at I2
  refine wpAny_bind (wpAny_rule (wpAny_bind (unpack_hot (items := #[u1, u2]) hat (IsTup.new s1.heap _) fun h' hx' => ?_)))
  have I3 := I2.kept (h' := h') (t' := s1.toks) fun b o e => hx' b o (Nat.ne_of_lt (Heap.lt_size e)) e
  show wpAny _ _ (assignInOrder [fun v => bindName X.env y v, fun v => bindName X.env x v] [u2, u1] >>= fun _ => pure Flow.next) _ _ _
  refine wpAny_bind (assignInOrder_cons (wpAny_bindName (store_ok I3 hN hj (.inl hy) rw' (fun s2 I4 => ?_) (.inr hy))))
  refine assignInOrder_cons (wpAny_bindName (store_ok I4 hN hi (.inl hx) rv (fun s3 I5 => assignInOrder_nil (wpAny_pure ?_)) (.inr hx)))
  rw [List.set_comm _ _ (Ne.symm hij)] at I5
  exact ⟨_, H1, I5, q1⟩
/-- the suite of a caught error whose context is None -/
theorem hot_suite {X : Cx} {a : Addr} {oe : Obj} {cls : Value} {d : Option Addr} {pn : List (Addr × Obj)} (hz : L2N.Zn cls d oe) (hf : ∃ vs, oe.data = .fields vs) : HotC (X.suite a ((a, oe) :: pn)) := by
  obtain ⟨vs, hd⟩ := hf
  exact ⟨(a, oe), ⟨rfl, vs, hd, hz.2.2 vs hd⟩, List.mem_cons_self⟩
end HP
namespace HP
open PySem PySem.Spec PyProof.Rows L2
/-! ### errors whose context is known to be None -/
section
variable {X : Cx} {e : Expr} {es : List Expr} {ta : TA} {p pos : Pos}
theorem pmk_oexN {CX : CXT} {x : Str} {C fI : Addr} {k : Nat} {fd : FuncData} {ps : List Str} {sp : Sp} (T : OexC X.K C) (iC : PySem.W.findIn X.K (.ref C) "__init__" = some (some (.ref fI))) (tI : PySem.W.typeIn X.K (.ref fI) = some (.type "function"))
    (F1 : FnOk X.prog X.w X.K X.mg X.base CX k fI fd ps sp) (hr : Room (k + 1) X.A) (hb : Binds X.K fd ps []) (hx : Passes CX X (fun _ _ _ => False)) (hg : Gl X x) (hm : X.mg x = some (.ref C)) (ha : PA X (e :: es) ta)
    (hdb : (x == ("__debug__" : Str)) = false := by decide) (he : starEach (e :: es) X.env = (false, eval e X.env) :: starEach es X.env := by rfl) (hpl : (backTo pos (starEach es X.env)).any (·.1) = false := by rfl) :
    L2N.PMk X (.Call (.Name x p) (e :: es) [] pos) (tMkO C sp [] ta) := by
  intro pins s σ H Q I h
  obtain ⟨_, _, _, _, bm, _, _, _, _, _, _, _, _, _, _, hC, hbm⟩ := T.cls
  refine wpAny_Call_Name_kw (ld_glob I hg hm ?_ hdb)
  refine PySem.W.callWith_K (h₀ := X.base) I.ok.mod.kin T.kC (thn (ha.run pos pins s σ H _ I h) fun us s1 ⟨vs, H1, I1, r1, hz, q1⟩ => ⟨I1.kIn, ?_⟩) he hpl
  show wpAny _ _ (call (.ref C) us) _ _ _
  obtain ⟨hp, g, dr, tk, os⟩ := s1
  have hsz : hp.objs.size ≤ hp.objs.size + 1 := Nat.le_succ _
  have hq := q1 _ (I1.hok.fresh hsz)
  rw [List.append_nil] at hq
  have kk : ∀ b o, hp.get? b = some o → ((hp.push (PySem.W.kdv_tup us)).push (PySem.HandSPX.excO C hp.objs.size)).get? b = some o := fun b o e => Heap.get?_push_of_some _ (Heap.get?_push_of_some _ e)
  have hget : ((hp.push (PySem.W.kdv_tup us)).push (PySem.HandSPX.excO C hp.objs.size)).get? (hp.objs.size + 1) = some (PySem.HandSPX.excO C hp.objs.size) := by heap_get
  have I2 : Inv X pins σ (upd H1 (hp.objs.size + 1) (exo (hp.objs.size + 1) C none)) ⟨(hp.push (PySem.W.kdv_tup us)).push (PySem.HandSPX.excO C hp.objs.size), g, dr, tk, os⟩ :=
    I1.laid (t' := tk) (a := hp.objs.size + 1) (o := exo (hp.objs.size + 1) C none) (h' := (hp.push (PySem.W.kdv_tup us)).push (PySem.HandSPX.excO C hp.objs.size)) kk hsz (exo_ok hget)
  have r2 : Vals (V.ref (hp.objs.size + 1) :: vs) (Value.ref (hp.objs.size + 1) :: us) := .cons rfl r1
  have hl : (Value.ref (hp.objs.size + 1) :: us).length = ps.length := by
    have e := r2.length
    rw [F1.len _ _ _ _ hq] at e
    exact e.symm
  have hus : us.length ≤ sizeLine := by
    rw [← r1.length, sizeLine_eq]
    omega
  refine wpAny_call (PySem.HandSPX.call_own F.excBase_ValueError (fun Y => PySem.HandSPX.refsVE_contains Y bm hbm) (I1.kIn _ _ hC) (PySem.W.looks_findIn I1.kIn iC) (fun self => PySem.W.bind_fn I1.kIn self tI) hus
    (codeAny_mono (F1.run _ X.stack _ _ ⟨Value.ref (hp.objs.size + 1) :: us, []⟩ (Value.ref (hp.objs.size + 1) :: us) _ _ (fun _ _ _ => False) (hr.make C us []) (I2.env0.make C us []) (by
      have z := hb _ (Value.ref (hp.objs.size + 1) :: us) I2.kIn (by rw [List.append_nil]; exact hl)
      rw [List.append_nil] at z
      exact z) r2 hq) fun r s' hq' => ?_))
  match r, hq' with
  | .error er, hq' => exact hx pins σ _ _ er s' I2 hq'
  | .ok (.ret u), hq' =>
    obtain ⟨v, H2, os2, bare2, un2, hok2, rv, ev, d, fs, ea, ed, hd1, q2⟩ := hq'
    subst ev
    obtain ⟨h2, g2, d2, t2, os'⟩ := s'
    obtain ⟨t0, G, J, kG, ge, hoe, na⟩ := mk_end0 (d2 := d2) (t2 := t2) I1 hsz kk un2 hok2 os2 bare2 ea ed hd1
    exact ⟨rv, _, _, _, ⟨G, g2, d2, t2, os'⟩, _, .ref C, some d, rfl, J, kG, ge, hoe, ⟨rfl, rfl, fun vs e => by cases e; rfl⟩, rfl, rfl, na, rfl, bare2, raises_own T.exC T.tyC, q2⟩
  | .ok .next, hq' => exact False.elim hq'
  | .ok .brk, hq' => exact False.elim hq'
  | .ok .cont, hq' => exact False.elim hq'
end
section
variable {P : Program} {w : World} {K : PySem.W.Frag} {mg : Str → Option Value} {base : Heap}
theorem fnXN {x : Str} {st : Stmt} {f : Addr} {fd : FuncData} {N ps : List Str} {k : Nat} {sp : Sp} (F : Fun K x x st f fd) (S : FnScope N ps (defScope st))
    (hbody : ∀ (cdv : Value) (A : Around) (outer : List Env) (s : Shared) (H : Hp) (vs : List V) (Q : VK) (E : XK), Room k (A.deeper (envOfC x (defScope st) s.heap.objs.size f cdv)) → sp vs H Q E →
      ∃ t, PSs (cxOf (L2N.CX P w) P w K mg base N x (defScope st) f cdv A outer s H E) (defBody st) t ∧ t { nx := fun _ H' => Q .non H', rt := Q } (start N vs) H) : FnOk P w K mg base (L2N.CX P w) (k + 1) f fd ps (spN ps.length sp) := by
  obtain ⟨oc, od, kV, doc, pm, an, cdv, ct, osl, rfl, lk, hcd⟩ := F.ex
  exact fn_of lk hcd S (fun _ _ _ _ h => h.1) fun A outer s H vs Q E hr h => hbody cdv A outer s H vs Q E hr h.2
theorem noraiseN {k : Nat} {f : Addr} {fd : FuncData} {ps : List Str} {sp : Sp} {n : Nat} (F : FnOk P w K mg base (L2N.CX P w) k f fd ps (spN n sp)) : FnOk P w K mg base CX0 k f fd ps (spN n (spE0 sp)) := by
  refine ⟨fun vs H Q E h => F.len vs H Q E0 ⟨h.1, h.2⟩, fun A outer s H ar us vs Q E hr e0 hb r h => ?_⟩
  refine codeAny_mono (F.run A outer s H ar us vs Q E0 hr e0 hb r ⟨h.1, h.2⟩) fun res s' hq => ?_
  cases res with
  | ok fl => cases fl <;> exact hq
  | error e =>
    obtain ⟨_, _, _, _, _, _, _, _, _, _, _, _, z⟩ := (show L2N.CX P w outer H s E0 e s' from hq)
    exact z.elim
structure CalXN (P : Program) (w : World) (K : PySem.W.Frag) (mg : Str → Option Value) (base : Heap) (k : Nat) (x : Str) (ps : List Str) (sp : Sp) (n : Nat) (ks : List Str) (dvs : List V) (perm : List Nat) : Prop where
  ex : ∃ (f : Addr) (fd : FuncData) (mv : List Value), FnOk P w K mg base (L2N.CX P w) k f fd ps (spN ps.length sp) ∧ mg x = some (.ref f) ∧ PySem.W.keepIn K (.ref f) = true ∧ KBn K fd ps n ks (fun us ws => pick perm (us ++ (mv ++ ws))) (fun vs zs => pick perm (vs ++ (dvs ++ zs)))
theorem calXN {x : Str} {st : Stmt} {f : Addr} {fd : FuncData} {ps : List Str} {k : Nat} {sp : Sp} (n : FnOk P w K mg base (L2N.CX P w) k f fd ps (spN ps.length sp)) (g : mg x = some (.ref f)) (F : Fun K x x st f fd) (m : Nat) (ks : List Str) (perm : List Nat)
    (b : ∀ (kV doc pm : Value) (an : Option Addr) (cdv ct : Value) (us ws : List Value), us.length = m → ws.length = ks.length → bindArgs (PySem.W.fnOf x x (defArgs st) (defBody st) (defScope st) .none kV doc pm an cdv ct) ⟨us, ks.zip ws⟩ = pure (ps.zip (pick perm (us ++ ws)))) : CalXN P w K mg base k x ps sp m ks [] perm := by
  obtain ⟨oc, od, kV, doc, pm, an, cdv, ct, osl, rfl, lk, hcd⟩ := F.ex
  exact ⟨f, _, [], n, g, F.kp, ⟨fun s us ws _ l1 l2 => .of_eq (b kV doc pm an cdv ct us ws l1 l2), fun r1 r2 => pick_vals (r1.append r2) perm⟩⟩
theorem CalXN.no {k : Nat} {x : Str} {ps : List Str} {sp : Sp} {n : Nat} {ks : List Str} {dvs : List V} {perm : List Nat} (c : CalXN P w K mg base k x ps sp n ks dvs perm) : CalK P w K mg base k x ps (spE0 sp) n ks dvs perm := by
  obtain ⟨f, fd, mv, F, a, b, d⟩ := c.ex
  exact ⟨f, fd, mv, noraiseN F, a, b, d⟩
end
section
variable {X : Cx} {k j n : Nat} {x : Str} {ps ks : List Str} {sp : Sp} {p pos : Pos} {e : Expr} {es : List Expr} {t tk : TA} {dvs : List V} {perm : List Nat} {kws : List Keyword} {W : WX}
theorem pe_calXN (C : CalXN X.prog X.w X.K X.mg X.base k x ps sp n ks dvs perm) (hr : Room j X.A) (hkj : k ≤ j) (hg : Gl X x) (tW : L2N.Takes X W) (ha : PA X (e :: es) t) (hkw : PK X kws tk) (hall : (backToKw pos (keywordEach kws X.env)).all (·.1.isSome) = true := by rfl) (hks : (backToKw pos (keywordEach kws X.env)).filterMap (·.1) = ks := by rfl)
    (hdb : (x == ("__debug__" : Str)) = false := by decide) (he : starEach (e :: es) X.env = (false, eval e X.env) :: starEach es X.env := by rfl)
    (hpl : ((backTo pos (starEach (e :: es) X.env)).any (·.1) || (backToKw pos (keywordEach kws X.env)).any (·.1.isNone)) = false := by rfl) : PE X (.Call (.Name x p) (e :: es) kws pos) (tCalX n ks.length ps.length sp dvs perm W t tk) := by
  obtain ⟨f, fd, mv, F, hm, hk, hb⟩ := C.ex
  refine ⟨fun pins s σ H Q I h => ?_⟩
  refine wpAny_Call_Name_kw (ld_glob I hg hm ?_ hdb)
  refine PySem.W.callWith_KW (h₀ := X.base) I.ok.mod.kin hk hall (thn (ha.run pos pins s σ H _ I h) fun us s1 ⟨vs, H1, I1, r, q⟩ => ?_) hpl he
  refine thn (hkw.run pos pins s1 σ H1 _ I1 q) fun ws s2 ⟨zs, H2, I2, rz, l1, l2, l3, q2⟩ => ⟨I2.kIn, ?_⟩
  rw [hks]
  have r2 := hb.rel r rz
  refine wpAny_call (codeAny_mono (F.run X.A X.stack s2 H2 ⟨us, ks.zip ws⟩ _ _ Q (WE W σ) (hr.mono hkj) I2.env0 (hb.to s2 us ws I2.kIn (r.length.symm.trans l1) (rz.length.symm.trans l2)) r2 ⟨l3, q2⟩) fun res s' hq => ?_)
  match res, hq with
  | .error er, hq => exact L2N.passAt tW σ pins H2 s2 er s' I2 hq
  | .ok (.ret u), hq => exact I2.after hq
  | .ok .next, hq => exact False.elim hq
  | .ok .brk, hq => exact False.elim hq
  | .ok .cont, hq => exact False.elim hq
end
end HP
namespace HP
open PySem PySem.Spec PyProof.Rows L2
theorem takes0N {X : Cx} : L2N.Takes X (fun _ _ _ _ => False) := fun _ _ x => by
  obtain ⟨_, _, _, _, _, _, _, _, _, _, _, _, _, _, _, _, z⟩ := x
  exact z.elim
end HP
namespace HP
open PySem PySem.Spec PyProof.Rows L2
/-! ### rounding -/
def spFromQ : Sp := fun vs H Q _ => ∃ v q, vs = [v] ∧ NQ H v q ∧ 0 ≤ q ∧ ∀ H', Same H H' → Q (.bl true) H'
def spPeriodQ : Sp := fun vs H Q _ => ∃ v q, vs = [v] ∧ NQ H v q ∧ 0 < q ∧ ∀ H', Same H H' → Q (.bl true) H'
def spPhaseQ : Sp := fun vs H Q _ => ∃ v u f s, vs = [v, u] ∧ NQ H v f ∧ NQ H u s ∧ 0 ≤ f ∧ f < s ∧ BQ 900 f ∧ BQ 900 s ∧ ∀ H', Same H H' → Q (.bl true) H'
def spSignedQ : Sp := fun vs H Q _ => ∃ u v a d, vs = [u, v] ∧ NQ H u a ∧ NQ H v d ∧ BQ 1500 a ∧ ∀ z H', Same H H' → NQ H' z (if d < 0 then -a else a) → Q z H'
def spAboveQ : Sp := fun vs H Q _ => ∃ v q, vs = [v] ∧ NQ H v q ∧ ∀ H', Same H H' → Q (.bl (decide (0 < q))) H'
theorem q_pos0 (q : Rat) : 0 < q ↔ 0 < q.num := by
  rw [q_lt 0 q]
  show 0 * (q.den : Int) < q.num * (1 : Int) ↔ _
  rw [Int.mul_one, Int.zero_mul]
theorem sgn_nn {q : Rat} (h : 0 ≤ q) : sgn q.num ≥ 0 := by
  have h1 : ¬ q.num < 0 := fun z => absurd ((q_neg0 q).mpr z) (Rat.not_lt.mpr h)
  unfold sgn
  split
  · exact absurd (by assumption) h1
  · split <;> omega
theorem sgn_lt {q : Rat} : sgn q.num < 0 ↔ q < 0 := by
  rw [q_neg0]
  unfold sgn
  split
  · exact ⟨fun _ => by assumption, fun _ => by decide⟩
  · split
    · exact ⟨fun z => by omega, fun z => by omega⟩
    · exact ⟨fun z => by omega, fun z => by omega⟩
theorem sgn_gt0 {q : Rat} (h : 0 < q) : sgn q.num > 0 := by
  have h1 := (q_pos0 q).mp h
  unfold sgn
  rw [if_neg (by omega), if_pos h1]
  decide
theorem sgn_ge1 {q : Rat} : sgn q.num ≥ 1 ↔ 0 < q := by
  rw [q_pos0]
  unfold sgn
  split
  · exact ⟨fun z => by omega, fun z => by omega⟩
  · split
    · exact ⟨fun _ => by assumption, fun _ => by decide⟩
    · exact ⟨fun z => by omega, fun z => by omega⟩
/-- the greatest multiple of c that isn't above q -/
def flq (q c : Rat) : Rat := ((q / c).floor : Rat) * c
def spFloorQ : Sp := fun vs H Q _ => ∃ x y a c, vs = [x, y] ∧ NQ H x a ∧ NQ H y c ∧ 0 < c ∧ BQ 1000 a ∧ BQ 1000 c ∧ ∀ v H', Same H H' → NQ H' v (flq a c) → Q v H'
theorem fl_div {T B : Int} (h : 0 < B) : ((T : Rat) / (B : Rat)).floor = T / B := by
  have hb : (0 : Rat) < (B : Rat) := by exact_mod_cast h
  have hb0 : (B : Rat) ≠ 0 := int_ne (by omega)
  have key : ∀ x : Int, (x : Rat) ≤ (T : Rat) / (B : Rat) ↔ x * B ≤ T := fun x => by
    have e : (T : Rat) = (T : Rat) / (B : Rat) * (B : Rat) := by grind
    constructor
    · intro z
      have := Rat.mul_le_mul_of_nonneg_right z (Rat.le_of_lt hb)
      rw [← e] at this
      exact_mod_cast this
    · intro z
      have z' : (x : Rat) * (B : Rat) ≤ (T : Rat) / (B : Rat) * (B : Rat) := by
        rw [← e]
        exact_mod_cast z
      exact Rat.le_of_mul_le_mul_right z' hb
  refine Int.le_antisymm ?_ ?_
  · rw [Int.le_ediv_iff_mul_le h]
    exact (key _).mp (Rat.floor_le _)
  · rw [Rat.le_floor_iff]
    exact (key _).mpr (Int.ediv_mul_le _ (by omega))
theorem flo_q (a c : Rat) (hc : 0 < c) : ((flo a.num (a.den : Int) c.num (c.den : Int) : Int) : Rat) / ((c.den : Int) : Rat) = flq a c := by
  have hn : c ≠ 0 := fun z => by rw [z] at hc; exact Rat.lt_irrefl hc
  have hcn : 0 < c.num := (q_pos0 c).mp hc
  have e1 := rat_nd c
  have e2 := den_ne c
  have ef : (a / c).floor = (a.num * (c.den : Int)).fdiv ((a.den : Int) * c.num) := by
    rw [q_div a c hn]
    have hp : 0 < (a.den : Int) * c.num := Int.mul_pos (den_pos' a) hcn
    rw [fl_div hp, Int.fdiv_eq_ediv_of_nonneg _ (Int.le_of_lt hp)]
  unfold flq flo
  rw [ef, Rat.intCast_mul]
  generalize ((a.num * (c.den : Int)).fdiv ((a.den : Int) * c.num) : Int) = m at *
  grind
theorem im_floor {vs H Q E} (h : spFloorQ vs H Q E) : spFloor vs H Q E := by
  obtain ⟨x, y, a, c, rfl, N1, N2, hc, B1, B2, k⟩ := h
  refine ⟨x, y, _, _, _, _, rfl, N1, N2, (q_pos0 c).mp hc, B1.t, B1.b, B2.t, B2.b, fun v H' t' b' S N L => k v H' S ?_⟩
  rw [← flo_q a c hc]
  exact N.nq (by have := den_pos' c; omega) L
/-- where a distance, bare, goes -/
def nea (s f d : Rat) : Rat := f + (if flq (d - (f - s / 2)) s < 0 then 0 else flq (d - (f - s / 2)) s)
end HP
namespace HP
open PySem PySem.Spec PyProof.Rows L2
theorem nea_n {s f d : Rat} (hs : 0 < s) : ∃ n : Int, 0 ≤ n ∧ nea s f d = f + (n : Rat) * s ∧ d - (f + (n : Rat) * s) < s / 2 ∧ (n = 0 ∨ -(d - (f + (n : Rat) * s)) ≤ s / 2) := by
  have h1 := Rat.floor_le ((d - (f - s / 2)) / s)
  have h2 := Rat.lt_floor_add_one ((d - (f - s / 2)) / s)
  have hs0 : s ≠ 0 := fun z => by rw [z] at hs; exact Rat.lt_irrefl hs
  have e : (d - (f - s / 2)) / s * s = d - (f - s / 2) := by grind
  unfold nea flq
  generalize ((d - (f - s / 2)) / s).floor = q at *
  have h3 : (q : Rat) * s ≤ d - (f - s / 2) := by
    have := Rat.mul_le_mul_of_nonneg_right h1 (Rat.le_of_lt hs)
    rw [e] at this
    exact this
  have h4 : d - (f - s / 2) < ((q + 1 : Int) : Rat) * s := by
    have := Rat.mul_lt_mul_of_pos_right h2 hs
    rw [e] at this
    exact this
  rw [Rat.intCast_add, show ((1 : Int) : Rat) = 1 from rfl] at h4
  have hm : ∀ m : Int, 0 ≤ m → 0 ≤ (m : Rat) * s := fun m hm => Rat.mul_nonneg (by exact_mod_cast hm) (Rat.le_of_lt hs)
  by_cases hq : q < 0
  · refine ⟨0, Int.le_refl _, ?_, ?_, .inl rfl⟩
    · rw [if_pos ?_, show ((0 : Int) : Rat) = 0 from rfl]
      · grind
      · have : (0 : Rat) < (-q : Int) := by exact_mod_cast (by omega : 0 < -q)
        have := Rat.mul_pos this hs
        rw [Rat.intCast_neg] at this
        grind
    · rw [show ((0 : Int) : Rat) = 0 from rfl]
      have := hm (-q - 1) (by omega)
      rw [Rat.intCast_sub, Rat.intCast_neg, show ((1 : Int) : Rat) = 1 from rfl] at this
      grind
  · have h5 := hm q (by omega)
    refine ⟨q, by omega, ?_, ?_, .inr ?_⟩
    · rw [if_neg (Rat.not_lt.mpr h5)]
    · grind
    · grind
end HP
namespace HP
open PySem PySem.Spec PyProof.Rows L2
def spMinL : Sp := fun vs H Q _ => ∃ x y a b, vs = [x, y] ∧ NQ H x a ∧ NQ H y b ∧ BQ 1900 a ∧ BQ 1900 b ∧ ∀ v H', Same H H' → NQ H' v (a + b * ((0 - 1 : Int) : Rat)) → Q v H'
theorem min_l (a b : Rat) : a + b * ((0 - 1 : Int) : Rat) = a - b := by
  rw [show ((0 - 1 : Int) : Rat) = -1 from rfl]
  grind
/-- a period above nought, a phase from nought on below it -/
def spPeriod (K : PySem.W.Frag) : Sp := fun vs H Q _ => ∃ bx n, vs = [.ref bx] ∧ Box H bx n ∧ n < 700000 ∧ ∀ p H' v u s f, H' p = some (.tup [v, u]) → NQ H' v s → NQ H' u f → 0 < s → 0 ≤ f → f < s → BQ 120 s → BQ 130 f → Go bx H H' → Box H' bx (n + 110) → Q (.ref p) H'
def spDist (K : PySem.W.Frag) : Sp := fun vs H Q _ => ∃ bx n v u s f, vs = [.ref bx, v, u] ∧ Box H bx n ∧ n < 700000 ∧ NQ H v s ∧ NQ H u f ∧ BQ 120 s ∧ BQ 130 f ∧ ∀ z d H', NQ H' z d → BQ 500 d → Go bx H H' → Box H' bx (n + 110) → Q z H'
def spToldR (K : PySem.W.Frag) : Sp := fun vs H Q _ => ∃ x y v u s f d, vs = [x, y, v, u] ∧ NQ H x (nea s f d) ∧ NQ H y d ∧ NQ H v s ∧ NQ H u f ∧ 0 < s ∧ BQ 1150 (nea s f d) ∧ BQ 500 d ∧ BQ 120 s ∧ BQ 130 f ∧ ∀ H', Same H H' → Q (.bl true) H'
end HP
namespace HP
open PySem PySem.Spec PyProof.Rows L2
theorem nq_int {H : Hp} {v : V} {n : Int} (h : NQ H v (n : Rat)) : v = .int n := by
  unfold NQ at h
  rw [Rat.num_intCast, Rat.den_intCast] at h
  rcases h with ⟨h, _⟩ | ⟨p, _, _, h, _⟩
  · exact h
  · have h : (2 : Int) ≤ ((1 : Nat) : Int) := h
    omega
theorem q_inv (s : Rat) (hs : 0 < s) : ((s.den : Int) : Rat) / (s.num : Rat) = 1 / s := by
  have h1 := rat_nd s
  have h2 := den_ne s
  have h3 := int_ne (show s.num ≠ 0 by have := (q_pos0 s).mp hs; omega)
  have h4 : s ≠ 0 := fun z => by rw [z] at hs; exact Rat.lt_irrefl hs
  grind
theorem q_half : ((1 : Int) : Rat) / ((2 : Int) : Rat) = 1 / 2 := rfl
theorem many_n {s f : Rat} {n : Int} (hs : 0 < s) : (f + (n : Rat) * s + f * ((0 - 1 : Int) : Rat)) * (1 / s) = (n : Rat) := by
  have h4 : s ≠ 0 := fun z => by rw [z] at hs; exact Rat.lt_irrefl hs
  rw [show ((0 - 1 : Int) : Rat) = -1 from rfl]
  grind
theorem half_ok {s x d : Rat} (h : d - x < s / 2) : 0 < s * (1 / 2) + (d + x * ((0 - 1 : Int) : Rat)) * ((0 - 1 : Int) : Rat) := by
  rw [show ((0 - 1 : Int) : Rat) = -1 from rfl]
  grind
theorem back_ok {s x d : Rat} (h : -(d - x) ≤ s / 2) : ¬ 0 < (d + x * ((0 - 1 : Int) : Rat)) * ((0 - 1 : Int) : Rat) + s * (1 / 2) * ((0 - 1 : Int) : Rat) := by
  rw [show ((0 - 1 : Int) : Rat) = -1 from rfl]
  grind
end HP
namespace HP
open PySem PySem.Spec PyProof.Rows L2
/-! ### errors as things -/
section
open PySem.W
variable {prog : Program} {w : World} {A : Around} {E : Value → Shared → Prop} {s : Shared} {K : Frag} {x D : Addr} {ox : Obj} {od : Option Obj}
theorem fo_cls {C : Addr} {name : Str} {a g : Value} (hc : (clsIn K C).isSome = true) (ha : findIn K (.ref C) name = some (some a)) (hg : specialIn K a "__get__" = some (some g)) (ht : takesIn K a = some true) : findObj K C od name = some (.bind g a) := by
  obtain ⟨cd, hcd⟩ := Option.isSome_iff_exists.mp hc
  unfold findObj
  rw [hcd, Option.bind_some, ha, Option.bind_some]; simp [hg, ht]
/-- what an error's class says of its things' class, whatever dict they have -/
theorem ek_class {Q : Option Value → Shared → Prop} (C : ExcC K D) (X : K.In s.heap) (I : InstAt s.heap x ox D od) (h : Q (some (.ref D)) { s with toks := s.toks + 1 }) : wpAny (model prog w) A (getAttr? (.ref x) "__class__") Q E s := by
  have hf : findObj K D od "__class__" = some (.bind (.builtin "getset_descriptor.__get__") (.builtin "object.__class__")) := fo_cls (by obtain ⟨c1, c2, _⟩ := any_some C.hd; rw [c2]; rfl) C.ha C.hn C.ht
  obtain ⟨hp, g, d, t, os⟩ := s
  have M0 := I.type (M := model prog w)
  have M1 := looks_findIn (M := model prog w) X C.hg
  have M2 := looks_findIn (M := model prog w) X C.hk
  have M3 := looks_find (M := model prog w) X I hf
  have isub : Looks (model prog w) hp (isInstance (.ref x) (.type "BaseException")) true := M0.andThen (looks_subIn X C.hs)
  have y2 : (Value.builtin "BaseException.__getattribute__" == Value.builtin "object.__getattribute__") = false := by decide +kernel
  have y1 : (onTheHeap (Value.ref D) && Value.builtin "BaseException.__getattribute__" == Value.builtin "object.__getattribute__") = false := by rw [y2]; rfl
  unfold getAttr? getAttrBy? getAttrBy; refine wpAny_bind (wpAny_mkText (wpAny_bind (wpAny_attempt (wpAny_holding (wpAny_bind (M0.at (wpAny_bind (M1.at ?_))))))))
  show wpAny _ _ (if (onTheHeap (Value.ref D) && Value.builtin "BaseException.__getattribute__" == Value.builtin "object.__getattribute__") = true then _ else _) _ _ _
  rw [y1, if_neg Bool.false_ne_true]; unfold getAttrByItsOwn hookBefore
  refine wpAny_bind ?_; rw [if_pos (show onTheHeap (Value.ref D) = true from rfl)]; refine M2.at ?_
  refine wpAny_bind (wpAny_attempt (wpAny_holding ?_)); unfold callGetattribute
  rw [show (false && onTheHeap (Value.builtin "BaseException.__getattribute__")) = false from rfl, if_neg Bool.false_ne_true]; unfold boundAndCalled
  rw [PySem.F.excAttr_ValueError.ga.bind (.ref x)]; refine wpAny_bind (wpAny_pure ?_)
  show wpAny _ _ (call (.builtin "BaseException.__getattribute__") [.ref x, .str "__class__" t]) _ _ _
  refine wpAny_call (codeAny_call_builtin PySem.F.excAttr_ValueError.ga.plain PySem.F.entry_bexc_ga (@check_slot (model prog w) _ _ ⟨hp, g, d, t + 1, os⟩ "BaseException.__getattribute__" "BaseException" "__getattribute__" (.ref x) [.str "__class__" t] [] _ (by decide +kernel) (by decide +kernel) isub (PySem.F.args_bexc_ga (.ref x) (.str "__class__" t)) ?_))
  unfold Builtin.«object.__getattribute__»; refine wpAny_bind (wpAny_of_eq (a := ((Value.ref x : Value), [Value.str "__class__" t])) (by first | rfl | (simp only [slotArgs]; rfl)) ?_)
  refine wpAny_bind (wpAny_pure (wpAny_bind (M0.at (wpAny_bind (M3.at ?_)))))
  show wpAny _ _ (holding [Value.builtin "object.__class__"] (call (.builtin "getset_descriptor.__get__") [.builtin "object.__class__", .ref x, .ref D]) >>= ret) _ _ _
  refine wpAny_bind (wpAny_holding (wpAny_call (class_get (s := ⟨hp, g, d, t + 1, os⟩) (ox := ox) (od := od) X I C.hm ?_)))
  refine wpAny_pure ?_; show wpAny _ _ (handedOut (.ref D)) _ _ _; rw [handedOut_of (v := .ref D) rfl]
  first | exact wpAny_pure (wpAny_pure h) | exact wpAny_pure h | exact wpAny_pure (wpAny_bind (wpAny_pure (wpAny_pure h)))
theorem ek_kit (C : ExcC K D) : KitX K (.ref x) (.ref D) (fun h => InstAt h x ox D od) where
  ty := fun _ _ _ I => I.type
  it := fun _ _ X _ => by
    obtain ⟨c1, c2, _⟩ := any_some C.hd
    unfold clsIn at c2; split at c2
    · rename_i c' d' cd' sl' ho
      intro A' Q' E' s' k q; unfold isType loadHead; exact wpAny_bind (wpAny_loadPart (k _ _ (X _ _ ho)) (wpAny_pure q))
    · cases c2
  ne := fun h tp dd its n sl X htp => by
    obtain ⟨c1, c2, _⟩ := any_some C.hd
    refine Bool.eq_false_iff.mpr fun q => ?_
    obtain rfl : D = tp := Value.ref.inj (beq_iff_eq.mp q)
    unfold clsIn at c2; split at c2
    · rename_i c' d' cd' sl' ho
      cases (X _ _ ho).symm.trans htp
    · cases c2
  ca := fun X I k => ek_class C X I k
end
/-- an error of the class at C, with its field -/
structure Erv (K : PySem.W.Frag) (H : Hp) (a C : Addr) (d : Addr) (fs : List (Str × V)) : Prop where
  e : H a = some (exo a C (some d))
  f : H d = some (exd d fs)
theorem Erv.same {K : PySem.W.Frag} {H H' : Hp} {a C d : Addr} {fs : List (Str × V)} (h : Erv K H a C d fs) (s : Same H H') : Erv K H' a C d fs := ⟨s _ _ h.e, s _ _ h.f⟩
section
variable {X : Cx} {e : Expr} {es : List Expr} {te : TE} {ta : TA} {p pos : Pos}
theorem erv_inst {pins : List (Addr × Obj)} {σ : L2.St} {H : Hp} {s : Shared} {a C d : Addr} {fs : List (Str × V)} (I : Inv X pins σ H s) (h : Erv X.K H a C d fs) :
    ∃ ox oD mA, PySem.W.InstAt s.heap a ox C (some oD) ∧ s.heap.Ns1 d mA ∧ (∀ f, RelO (fs.lookup f) (mA f)) ∧ (∀ n, PySem.W.lookIn n oD = some (mA n)) := by
  obtain ⟨t1, ho⟩ := exo_at I.hok h.e
  obtain ⟨mA, hns, rel⟩ := exd_at I.hok h.f
  obtain ⟨oD, hd, hl⟩ := lookIn_ns hns
  exact ⟨_, oD, mA, ⟨ho, rfl, rfl, hd⟩, hns, rel, hl⟩
/-- isinstance of an error that is a thing -/
def rIsEv (K : PySem.W.Frag) : List V → Hp → VK → Prop := fun xs H Q => ∃ (a C d : Addr) (fs : List (Str × V)) (c : V) (u : Value) (b : Bool), xs = [.ref a, c] ∧ Erv K H a C d fs ∧ ExcC K C ∧ ClsV c u ∧ PySem.W.kitOne K (.ref C) u = some b ∧ Q (.bl b) H
theorem call_isEv : CallR X (.builtin "isinstance") (rIsEv X.K) := by
  intro pins s σ H xs us Q I r h
  obtain ⟨a, C, d, fs, c, u, b, rfl, ev, hC, k, ek, q⟩ := h
  obtain ⟨u1, u2, rfl, r1, r2⟩ := vals2 r
  have e2 := k.eq r2
  subst e2
  obtain rfl : u1 = Value.ref a := r1
  obtain ⟨ox, oD, mA, J, _⟩ := erv_inst I ev
  exact PySem.W.kia_one (ek_kit hC) I.kIn J ek (fun z => nomatch z) fun tk => ⟨.bl b, H, I.tok tk, rfl, q⟩
/-- .. of any thing -/
def rIsY (K : PySem.W.Frag) : List V → Hp → VK → Prop := fun xs H Q => rIsi K xs H Q ∨ rIsEv K xs H Q
theorem call_isY : CallR X (.builtin "isinstance") (rIsY X.K) := by
  intro pins s σ H xs us Q I r h
  rcases h with h | h
  · exact call_isi pins s σ H xs us Q I r h
  · exact call_isEv pins s σ H xs us Q I r h
/-- a field of an error that is a thing -/
def tEf (K : PySem.W.Frag) (n : Str) (te : TE) : TE := fun σ H Q => te σ H fun x H1 => ∃ (a C d : Addr) (fs : List (Str × V)) (v : V), x = .ref a ∧ Erv K H1 a C d fs ∧ XfC K C ∧ PySem.W.findIn K (.ref C) n = some none ∧ fs.lookup n = some v ∧ Q v H1
theorem pe_ef {n : Str} (he : PE X e te) (hb : attributeBase e n X.env (eval e X.env) = eval e X.env := by rfl) : PE X (.Attribute e n pos) (tEf X.K n te) := by
  refine ⟨fun pins s σ H Q I h => attr_of hb (thn (he.run pins s σ H _ I h) fun u s1 hh => ?_)⟩
  obtain ⟨x, H1, I1, rx, a, C, d, fs, v, rfl, ev, T, hno, l, q⟩ := hh
  obtain rfl : u = Value.ref a := rx
  obtain ⟨ox, oD, mA, J, hns, rel, hl⟩ := erv_inst I1 ev
  obtain ⟨u, hu, ru⟩ := RelO.some_of (v := v) (o := mA n) (by rw [← l]; exact rel n)
  exact HandSPX.exc_get I1.kIn J T.ga T.gg T.exC (PySem.W.findObj_own T.hdC hno rfl (by rw [hl, hu])) (handed_of ru) ⟨v, H1, I1.tok _, ru, q⟩
/-- C(e, ..) as a thing -/
def tMkV (C : Addr) (sp : Sp) (ta : TA) : TE := fun σ H Q => ta σ H fun vs H1 => vs.length ≤ 1000 ∧ ∀ a, H1 a = none → sp (.ref a :: vs) (upd H1 a (exo a C none)) (fun v H2 => v = .non ∧ Q (.ref a) H2) (fun _ _ _ => False)
theorem pe_mkv {CX : CXT} {x : Str} {C fI : Addr} {k : Nat} {fd : FuncData} {ps : List Str} {sp : Sp} (T : OexC X.K C) (iC : PySem.W.findIn X.K (.ref C) "__init__" = some (some (.ref fI))) (tI : PySem.W.typeIn X.K (.ref fI) = some (.type "function"))
    (F1 : FnOk X.prog X.w X.K X.mg X.base CX k fI fd ps sp) (hr : Room (k + 1) X.A) (hb : Binds X.K fd ps []) (hx : Passes CX X (fun _ _ _ => False)) (hg : Gl X x) (hm : X.mg x = some (.ref C)) (ha : PA X (e :: es) ta)
    (hdb : (x == ("__debug__" : Str)) = false := by decide) (he : starEach (e :: es) X.env = (false, eval e X.env) :: starEach es X.env := by rfl) (hpl : (backTo pos (starEach es X.env)).any (·.1) = false := by rfl) :
    PE X (.Call (.Name x p) (e :: es) [] pos) (tMkV C sp ta) := by
  refine ⟨fun pins s σ H Q I h => ?_⟩
  obtain ⟨nm, q, N, bs, bm, sn, sub, ab, col, dd, k0, k1, k2, k3, k5, hC, hbm⟩ := T.cls
  refine wpAny_Call_Name_kw (ld_glob I hg hm ?_ hdb)
  refine PySem.W.callWith_K (h₀ := X.base) I.ok.mod.kin T.kC (thn (ha.run pos pins s σ H _ I h) fun us s1 ⟨vs, H1, I1, r1, hz, q1⟩ => ⟨I1.kIn, ?_⟩) he hpl
  show wpAny _ _ (call (.ref C) us) _ _ _
  obtain ⟨hp, g, dr, tk, os⟩ := s1
  have hsz : hp.objs.size ≤ hp.objs.size + 1 := Nat.le_succ _
  have hn : H1 (hp.objs.size + 1) = none := I1.hok.fresh hsz
  have hq := q1 (hp.objs.size + 1) hn
  have up2 : ∀ b o, hp.get? b = some o → ((hp.push (PySem.W.kdv_tup us)).push (PySem.HandSPX.excO C hp.objs.size)).get? b = some o := fun b o z => Heap.get?_push_of_some _ (Heap.get?_push_of_some _ z)
  have hget : ((hp.push (PySem.W.kdv_tup us)).push (PySem.HandSPX.excO C hp.objs.size)).get? (hp.objs.size + 1) = some (PySem.HandSPX.excO C hp.objs.size) := by heap_get
  have I2 : Inv X pins σ (upd H1 (hp.objs.size + 1) (exo (hp.objs.size + 1) C none)) ⟨(hp.push (PySem.W.kdv_tup us)).push (PySem.HandSPX.excO C hp.objs.size), g, dr, tk, os⟩ :=
    I1.laid (t' := tk) (a := hp.objs.size + 1) (o := exo (hp.objs.size + 1) C none) (h' := (hp.push (PySem.W.kdv_tup us)).push (PySem.HandSPX.excO C hp.objs.size)) up2 hsz (exo_ok hget)
  have r2 : Vals (V.ref (hp.objs.size + 1) :: vs) (Value.ref (hp.objs.size + 1) :: us) := .cons rfl r1
  have hl : (Value.ref (hp.objs.size + 1) :: us).length = ps.length := by
    have z := r2.length
    rw [F1.len _ _ _ _ hq] at z
    exact z.symm
  have hus : us.length ≤ sizeLine := by
    rw [← Paired.length r1, sizeLine_eq]; omega
  have hbb := hb (⟨(hp.push (PySem.W.kdv_tup us)).push (PySem.HandSPX.excO C hp.objs.size), g, dr, tk, os⟩ : Shared) (Value.ref (hp.objs.size + 1) :: us) I2.kIn (by rw [List.append_nil]; exact hl)
  rw [List.append_nil] at hbb
  refine wpAny_call (PySem.HandSPX.call_own F.excBase_ValueError (fun Y => PySem.HandSPX.refsVE_contains Y bm hbm) (I1.kIn _ _ hC) (PySem.W.looks_findIn I1.kIn iC) (fun self => PySem.W.bind_fn I1.kIn self tI) hus
    (codeAny_mono (F1.run _ X.stack _ _ ⟨Value.ref (hp.objs.size + 1) :: us, []⟩ (Value.ref (hp.objs.size + 1) :: us) _ _ (fun _ _ _ => False) (hr.make C us []) (I2.env0.make C us []) hbb r2 hq) fun r s' hq' => ?_))
  cases r with
  | error er => exact hx pins σ _ _ er s' I2 hq'
  | ok fl =>
    cases fl with
    | ret u =>
      obtain ⟨v, H2, os2, bare2, un, hok2, rv, ev, q2⟩ := hq'
      subst ev
      obtain ⟨h2, g2, d2, t2, os'⟩ := s'
      have nha : ∀ {b : Addr} {o : Obj}, hp.get? b = some o → b ≠ hp.objs.size + 1 := fun {b o} z => Nat.ne_of_lt (Nat.lt_of_lt_of_le (Heap.lt_size z) hsz)
      have up : ∀ {b : Addr}, b ≠ hp.objs.size + 1 → H1 b = none → upd H1 (hp.objs.size + 1) (exo (hp.objs.size + 1) C none) b = none := fun {b} hb n => by rw [upd_ne hb]; exact n
      have U : Un (frs X.stack) [] H1 H2 hp h2 := {
        keep := fun b o z n hf hx => un.keep b o (up2 b o z) (up (nha z) n) hf hx
        slot := fun b o z n hf hx => un.slot b o (up2 b o z) (up (nha z) n) hf hx
        free := fun b o z n hx => un.free b o (up2 b o z) (up (nha z) n) hx
        there := fun b o z hx => un.there b o (up2 b o z) hx
        tups := fun b xs z => un.tups b xs (by rw [upd_ne (ne_of_none z hn)]; exact z)
        frzs := fun b o v z => un.frzs b o v (by rw [upd_ne (ne_of_none z hn)]; exact z)
        tbls := fun b ps z => un.tbls b ps (by rw [upd_ne (ne_of_none z hn)]; exact z) }
      have J : Inv X pins σ H2 ⟨h2, g2, d2, t2, os'⟩ := I1.call' (ch := []) os2 U hok2 bare2 (fun b z => absurd z (by simp))
      exact ⟨rv, .ref (hp.objs.size + 1), H2, J, rfl, q2⟩
    | next => exact False.elim hq'
    | brk => exact False.elim hq'
    | cont => exact False.elim hq'
end
theorem q_mkv {C : Addr} {sp : Sp} {σ : L2.St} {H : Hp} {Q : VK} {ta : TA} (q : ta σ H fun vs H1 => vs.length ≤ 1000 ∧ ∀ a, H1 a = none → sp (.ref a :: vs) (upd H1 a (exo a C none)) (fun v H2 => v = .non ∧ Q (.ref a) H2) (fun _ _ _ => False)) : tMkV C sp ta σ H Q := q
theorem q_mkE {K : PySem.W.Frag} {C : Addr} {v : V} {H : Hp} {R : Addr → Hp → Prop} (q : ∀ a d H', Same H H' → H a = none → H d = none → Erv K H' a C d [("found", v)] → R a H') :
    [v].length ≤ 1000 ∧ ∀ a, H a = none → spN 2 (spErr C) (.ref a :: [v]) (upd H a (exo a C none)) (fun v H2 => v = .non ∧ R a H2) (fun _ _ _ => False) := by
  refine ⟨Nat.le_of_ble_eq_true rfl, fun a na => ⟨rfl, a, v, rfl, upd_same, fun dx nx ne => ⟨rfl, q a dx _ (fun b o e => ?_) na ?_ ⟨upd_same, ?_⟩⟩⟩⟩
  · rw [upd_ne ne] at nx
    rw [upd_ne (ne_of_none e na), upd_ne (ne_of_none e nx), upd_ne (ne_of_none e na)]; exact e
  · rw [upd_ne ne] at nx
    exact nx
  · rw [upd_ne ne, upd_same]
theorem q_ef {K : PySem.W.Frag} {n : Str} {te : TE} {σ : L2.St} {H : Hp} {Q : VK} (q : te σ H fun x H1 => ∃ (a C d : Addr) (fs : List (Str × V)) (v : V), x = .ref a ∧ Erv K H1 a C d fs ∧ XfC K C ∧ PySem.W.findIn K (.ref C) n = some none ∧ fs.lookup n = some v ∧ Q v H1) : tEf K n te σ H Q := q
end HP
namespace HP
open PySem PySem.Spec PyProof.Rows L2
theorem pe_cal0 {X : Cx} {k j : Nat} {x : Str} {sp : Sp} {p pos : Pos} (C : Cal X.prog X.w X.K X.mg X.base k x [] sp) (hr : Room j X.A) (hkj : k ≤ j) (hg : Gl X x) (hdb : (x == ("__debug__" : Str)) = false := by decide) : PE X (.Call (.Name x p) [] [] pos) (tCal 0 sp tNil) := by
  obtain ⟨f, fd, F, hm, hk, hb⟩ := C.ex
  have q := pe_call0 F (hr.mono hkj) hg hm hk hb .nil pass0 hdb (p := p) (pos := pos)
  exact ⟨fun pins s σ H Q I h => q.run pins s σ H Q I h⟩
end HP
namespace HP
open PySem PySem.Spec PyProof.Rows L2
theorem kit_no {K : PySem.W.Frag} {C : Addr} {T : String} {b : Bool} (h : PySem.W.subIn K (.ref C) (.type T) = some b) (m : PySem.W.kitMeta T = true := by decide +kernel) : PySem.W.kitOne K (.ref C) (.type T) = some b := by
  have e : (Value.ref C == Value.type T) = false := by
    refine Bool.eq_false_iff.mpr fun q => ?_
    cases beq_iff_eq.mp q
  unfold PySem.W.kitOne
  rw [e, if_neg Bool.false_ne_true]
  show (if PySem.W.kitMeta T = true then PySem.W.subIn K (.ref C) (.type T) else none) = _
  rw [if_pos m]; exact h
end HP
namespace HP
open PySem PySem.Spec PyProof.Rows L2
/-! ### things of any kind -/
/-- an error's class is no built-in one -/
structure NoB (K : PySem.W.Frag) (C : Addr) : Prop where
  i : PySem.W.kitOne K (.ref C) (.type "int") = some false
  b : PySem.W.kitOne K (.ref C) (.type "bool") = some false
  s : PySem.W.kitOne K (.ref C) (.type "str") = some false
  t : PySem.W.kitOne K (.ref C) (.type "tuple") = some false
  l : PySem.W.kitOne K (.ref C) (.type "list") = some false
  d : PySem.W.kitOne K (.ref C) (.type "dict") = some false
inductive Th (K : PySem.W.Frag) (bx : Addr) (H : Hp) : V → Prop where
  | non : Th K bx H .non
  | bl (b : Bool) : Th K bx H (.bl b)
  | int (i : Int) (h : Bt 700 i) : Th K bx H (.int i)
  | str (s : Str) (h : s.length ≤ 40000) (o : PyData.strOk s = true) : Th K bx H (.str s)
  | lst {a : Addr} {xs : List V} (e : H a = some (.lst xs)) (n : a ≠ bx) : Th K bx H (.ref a)
  | tup {a : Addr} {xs : List V} (e : H a = some (.tup xs)) (n : a ≠ bx) (l : xs.length ≤ 1000) (h : ∀ x ∈ xs, Th K bx H x) : Th K bx H (.ref a)
  | dct {a : Addr} {kvs : List (Key × V)} (e : H a = some (.dK kvs)) (n : a ≠ bx) : Th K bx H (.ref a)
  | err {a C d : Addr} {fs : List (Str × V)} (e : Erv K H a C d fs) (n : a ≠ bx) (nd : d ≠ bx) (c : ExcC K C) (o : NoB K C) : Th K bx H (.ref a)
section
variable {K : PySem.W.Frag} {bx : Addr} {H H' : Hp} {v : V} {Q : VK}
theorem Th.go (h : Th K bx H v) (g : Go bx H H') : Th K bx H' v := by
  induction h with
  | non => exact .non
  | bl b => exact .bl b
  | int i h => exact .int i h
  | str s h o => exact .str s h o
  | lst e n => exact .lst (g _ _ e n) n
  | tup e n l h ih => exact .tup (g _ _ e n) n l ih
  | dct e n => exact .dct (g _ _ e n) n
  | err e n nd c o => exact .err ⟨g _ _ e.e n, g _ _ e.f nd⟩ n nd c o
theorem Th.same (h : Th K bx H v) (s : Same H H') : Th K bx H' v := h.go (Go.of s)
/-- its type among int, bool, str, tuple, list, dict -/
def tyS (H : Hp) : V → String
  | .non => "NoneType"
  | .bl _ => "bool"
  | .int _ => "int"
  | .str _ => "str"
  | .ref a => match H a with
    | some (.lst _) => "list"
    | some (.tup _) => "tuple"
    | some (.dK _) => "dict"
    | _ => "error"
  | _ => "error"
def isS (H : Hp) (v : V) (t : String) : Bool := tyS H v == t || (t == "int" && tyS H v == "bool")
theorem exo_lst {e C : Addr} {d : Option Addr} {xs : List V} : exo e C d ≠ .lst xs := fun z => by cases (show HO.ext _ = HO.lst xs from z)
theorem exo_dK {e C : Addr} {d : Option Addr} {xs : List (Key × V)} : exo e C d ≠ .dK xs := fun z => by cases (show HO.ext _ = HO.dK xs from z)
theorem tyS_err {a C d : Addr} (e : H a = some (exo a C (some d))) : tyS H (.ref a) = "error" := by
  show (match H a with
    | some (.lst _) => "list"
    | some (.tup _) => "tuple"
    | some (.dK _) => "dict"
    | _ => "error") = "error"
  rw [e]
  rfl
theorem tyx_of (h : Th K bx H v) : (∃ t, TyX K H v (.type t) ∧ tyS H v = t ∧ (t = "NoneType" ∨ t = "bool" ∨ t = "int" ∨ t = "str" ∨ t = "list" ∨ t = "tuple" ∨ t = "dict")) ∨ (tyS H v = "error" ∧ ∃ a C d fs, v = .ref a ∧ Erv K H a C d fs ∧ ExcC K C ∧ NoB K C) := by
  cases h with
  | non => exact .inl ⟨_, .base .non, rfl, .inl rfl⟩
  | bl b => exact .inl ⟨_, .base (.bl b), rfl, .inr (.inl rfl)⟩
  | int i h => exact .inl ⟨_, .base (.int i), rfl, by simp⟩
  | str s h o => exact .inl ⟨_, .base (.str s), rfl, by simp⟩
  | lst e n => exact .inl ⟨_, .base (.lst e), by unfold tyS; simp only [e], by simp⟩
  | tup e n l h => exact .inl ⟨_, .base (.tup e), by unfold tyS; simp only [e], by simp⟩
  | dct e n => exact .inl ⟨_, .base (.dK e), by unfold tyS; simp only [e], by simp⟩
  | @err a C d fs e n nd c o => exact .inr ⟨tyS_err e.e, a, C, d, fs, rfl, e, c, o⟩
def six : List String := ["int", "bool", "str", "tuple", "list", "dict"]
theorem kit_six : ∀ a ∈ ["NoneType", "bool", "int", "str", "list", "tuple", "dict"], ∀ t ∈ six, kitB a t = some (a == t || (t == "int" && a == "bool")) := by decide +kernel
theorem q_isTh {t : String} (h : Th K bx H v) (ht : t ∈ six) (q : Q (.bl (isS H v t)) H) : rIsY K [v, .ty t] H Q := by
  rcases tyx_of h with ⟨a, hx, e, ha⟩ | ⟨e, a, C, d, fs, rfl, ev, c, o⟩
  · refine .inl ⟨v, .ty t, _, _, _, rfl, .ty t, hx, kit_ty (kit_six a ?_ t ht), ?_⟩
    · simp only [List.mem_cons, List.not_mem_nil, or_false]
      rcases ha with h | h | h | h | h | h | h <;> simp [h]
    · unfold isS at q
      rw [e] at q
      exact q
  · have hs : isS H (.ref a) t = false := by
      unfold isS
      rw [e]
      simp only [six, List.mem_cons, List.not_mem_nil, or_false] at ht
      rcases ht with h | h | h | h | h | h <;> subst h <;> decide
    rw [hs] at q
    refine .inr ⟨a, C, d, fs, .ty t, _, false, rfl, ev, c, .ty t, ?_, q⟩
    simp only [six, List.mem_cons, List.not_mem_nil, or_false] at ht
    rcases ht with h | h | h | h | h | h <;> subst h
    · exact o.i
    · exact o.b
    · exact o.s
    · exact o.t
    · exact o.l
    · exact o.d
/-- a whole number, no truth -/
def isI : V → Bool
  | .int _ => true
  | _ => false
def isStr : V → Bool
  | .str _ => true
  | _ => false
theorem isS_int (h : Th K bx H v) : (isS H v "int" && !isS H v "bool") = isI v := by
  cases h with
  | lst e n => simp [isS, tyS, e, isI]
  | tup e n l h => simp [isS, tyS, e, isI]
  | dct e n => simp [isS, tyS, e, isI]
  | err e n nd c o => simp [isS, tyS_err e.e, isI]
  | non => simp [isS, tyS, isI, isStr]
  | bl b => simp [isS, tyS, isI, isStr]
  | int i h => simp [isS, tyS, isI]
  | str s h o => simp [isS, tyS, isI]
theorem isS_str (h : Th K bx H v) : isS H v "str" = isStr v := by
  cases h with
  | lst e n => simp [isS, tyS, e, isStr]
  | tup e n l h => simp [isS, tyS, e, isStr]
  | dct e n => simp [isS, tyS, e, isStr]
  | err e n nd c o => simp [isS, tyS_err e.e, isStr]
  | non => simp [isS, tyS, isI, isStr]
  | bl b => simp [isS, tyS, isI, isStr]
  | int i h => simp [isS, tyS, isStr]
  | str s h o => simp [isS, tyS, isStr]
theorem isS_tup (h : Th K bx H v) : (isS H v "tuple" = true ∧ ∃ a xs, v = .ref a ∧ H a = some (.tup xs) ∧ xs.length ≤ 1000 ∧ ∀ x ∈ xs, Th K bx H x) ∨ (isS H v "tuple" = false ∧ ∀ a xs, v = .ref a → H a ≠ some (.tup xs)) := by
  cases h with
  | lst e n => exact .inr ⟨by simp [isS, tyS, e], fun a xs z e2 => by cases z; rw [e] at e2; cases e2⟩
  | @tup a xs e n l h => exact .inl ⟨by simp [isS, tyS, e], a, xs, rfl, e, l, h⟩
  | dct e n => exact .inr ⟨by simp [isS, tyS, e], fun a xs z e2 => by cases z; rw [e] at e2; cases e2⟩
  | err e n nd c o => exact .inr ⟨by simp [isS, tyS_err e.e], fun a xs z e2 => by cases z; rw [e.e] at e2; exact exo_tup (Option.some.inj e2)⟩
  | non => exact .inr ⟨by simp [isS, tyS], fun a xs z => nomatch z⟩
  | bl b => exact .inr ⟨by simp [isS, tyS], fun a xs z => nomatch z⟩
  | int i h => exact .inr ⟨by simp [isS, tyS], fun a xs z => nomatch z⟩
  | str s h o => exact .inr ⟨by simp [isS, tyS], fun a xs z => nomatch z⟩
end
/-- what is_int, is_whole, is_name, is_number tell -/
def wholeB (lo hi : Int) : V → Bool
  | .int i => decide (lo ≤ i ∧ i ≤ hi)
  | _ => false
def nameB : V → Bool
  | .str s => decide (1 ≤ s.length ∧ s.length ≤ 8) && s.cps.toList.all fun c => decide (97 ≤ c ∧ c ≤ 122)
  | _ => false
def numV : List V → Bool
  | [.int t, .int b] => decide (2 ≤ b ∧ Nat.gcd t.natAbs b.natAbs = 1)
  | _ => false
def numB (H : Hp) : V → Bool
  | .int _ => true
  | .ref a => match H a with
    | some (.tup xs) => numV xs
    | _ => false
  | _ => false
theorem q_ifb {b : Bool} {A B : Prop} (h : b = true → A) (h' : b = false → B) : if b = true then A else B := by
  cases b with
  | true => rw [if_pos rfl]; exact h rfl
  | false => rw [if_neg Bool.false_ne_true]; exact h' rfl
theorem q_ifnb {b : Bool} {A B : Prop} (h : b = true → B) (h' : b = false → A) : if (!b) = true then A else B := by
  cases b with
  | true => exact h rfl
  | false => exact h' rfl
def spIntT (K : PySem.W.Frag) : Sp := fun vs H Q _ => ∃ v bx, vs = [v] ∧ Th K bx H v ∧ Q (.bl (isI v)) H
def spWholeT (K : PySem.W.Frag) : Sp := fun vs H Q _ => ∃ v bx lo hi, vs = [v, .int lo, .int hi] ∧ Th K bx H v ∧ Q (.bl (wholeB lo hi v)) H
def spNameT (K : PySem.W.Frag) : Sp := fun vs H Q _ => ∃ v bx, vs = [v] ∧ Th K bx H v ∧ ∀ H', Same H H' → Q (.bl (nameB v)) H'
def spNumT (K : PySem.W.Frag) : Sp := fun vs H Q _ => ∃ v bx, vs = [v] ∧ Th K bx H v ∧ Q (.bl (numB H v)) H
end HP
namespace HP
open PySem PySem.Spec PyProof.Rows L2
/-! ### texts, sign by sign -/
theorem lc_str {x : Str} {g : TG} {tt : TT} {te : TE} {vs : List Nat} {σ : L2.St} {H1 : Hp} {D : Addr} {Qd : Hp → Prop} (Pv : Nat → Hp → Prop) (h0 : Pv 0 (upd H1 D (.lst [])))
    (hs : ∀ i c H, x.cps[i]? = some c → Pv i H → g (.str ⟨#[c]⟩) (wipe σ vs) H fun σ2 H2 => wipe σ2 vs = wipe σ vs ∧ tt σ2 H2 fun b H3 => if b = true then te σ2 H3 fun y H4 => ∃ acc, H4 D = some (.lst acc) ∧ acc.length < sizeLine ∧ Pv (i + 1) (upd H4 D (.lst (acc ++ [y]))) else Pv (i + 1) H3)
    (hd : ∀ H, Pv x.cps.size H → Qd H) : ∃ W : Nat → Nat → Hp → Prop, (∃ m, W 0 m (upd H1 D (.lst []))) ∧ ∀ i m H, W i m H → ((L2.Its x).stop i H ∧ Qd H) ∨ ((L2.Its x).go i H ∧ ∃ Nx : Hp → Prop, (∀ H', Nx H' → ∃ m', m' < m ∧ W (i + 1) m' H') ∧
      ∀ y H', (L2.Its x).yld i H y H' → g y (wipe σ vs) H' fun σ2 H2 => wipe σ2 vs = wipe σ vs ∧ tt σ2 H2 fun b H3 => if b = true then te σ2 H3 fun y H4 => ∃ acc, H4 D = some (.lst acc) ∧ acc.length < sizeLine ∧ Nx (upd H4 D (.lst (acc ++ [y]))) else Nx H3) := by
  refine ⟨fun i m H => m = x.cps.size - i ∧ i ≤ x.cps.size ∧ Pv i H, ⟨_, rfl, Nat.zero_le _, h0⟩, fun i m H ⟨hm, hi, p⟩ => ?_⟩
  by_cases z : i < x.cps.size
  · refine .inr ⟨z, Pv (i + 1), fun H' p' => ⟨x.cps.size - (i + 1), by omega, rfl, z, p'⟩, fun y H' hy => ?_⟩
    obtain ⟨e, c, hc, ey⟩ := hy
    subst e ey
    exact hs i c _ hc p
  · have e : i = x.cps.size := by omega
    rw [e] at p
    exact .inl ⟨by rw [e]; exact Nat.le_refl _, hd H p⟩
def okc (c : Nat) : Bool := decide (97 ≤ c ∧ c ≤ 122)
theorem cps_a : ("a" : Str).cps.toList = [97] := by decide +kernel
theorem cps_z : ("z" : Str).cps.toList = [122] := by decide +kernel
theorem le_a (c : Nat) : (!decide ((⟨#[c]⟩ : Str).cps.toList < ("a" : Str).cps.toList)) = decide (97 ≤ c) := by
  rw [cps_a]
  show (!decide ([c] < [97])) = _
  simp only [List.cons_lt_cons_iff, List.not_lt_nil, and_false, or_false]
  by_cases h : c < 97
  · rw [decide_eq_true h, decide_eq_false (by omega)]; rfl
  · rw [decide_eq_false h, decide_eq_true (by omega)]; rfl
theorem le_z (c : Nat) : (!decide (("z" : Str).cps.toList < (⟨#[c]⟩ : Str).cps.toList)) = decide (c ≤ 122) := by
  rw [cps_z]
  show (!decide ([122] < [c])) = _
  simp only [List.cons_lt_cons_iff, List.not_lt_nil, and_false, or_false]
  by_cases h : 122 < c
  · rw [decide_eq_true h, decide_eq_false (by omega)]; rfl
  · rw [decide_eq_false h, decide_eq_true (by omega)]; rfl
theorem take_succ {x : Str} {i c : Nat} (h : x.cps[i]? = some c) : x.cps.toList.take (i + 1) = x.cps.toList.take i ++ [c] := by
  rw [List.take_add_one, Array.getElem?_toList, h]; rfl
theorem take_all (x : Str) : x.cps.toList.take x.cps.size = x.cps.toList := by
  rw [List.take_of_length_le]; simp
/-- a chain of two comparisons of texts -/
theorem q_chrs {c : Nat} {σ : L2.St} {H : Hp} {Q : VK} {i : Nat} (hs : σ[i]? = some (some (.str ⟨#[c]⟩))) (q : Q (.bl (okc c)) H) :
    tChain (fun x y H Q => ∃ i j, x = .str i ∧ y = .str j ∧ Q (.bl (!decide (j.cps.toList < i.cps.toList))) H) (fun x y H Q => ∃ i j, x = .str i ∧ y = .str j ∧ Q (.bl (!decide (j.cps.toList < i.cps.toList))) H) (tC (.str "a")) (tVar i) (tC (.str "z")) σ H Q := by
  refine ⟨_, hs, _, _, rfl, rfl, _, rfl, ?_⟩
  rw [le_a]
  unfold okc at q
  by_cases h : 97 ≤ c
  · rw [decide_eq_true h, if_pos rfl]
    refine ⟨_, _, rfl, rfl, ?_⟩
    rw [le_z]
    rw [show decide (97 ≤ c ∧ c ≤ 122) = decide (c ≤ 122) by simp [h]] at q
    exact q
  · rw [decide_eq_false h, if_neg Bool.false_ne_true]
    rw [show decide (97 ≤ c ∧ c ≤ 122) = false by simp [h]] at q
    exact q
theorem dp_strs {K : PySem.W.Frag} {H : Hp} : ∀ xs : List Str, DpAll K H (xs.map V.str) (xs.map PyData.str)
  | [] => .nil
  | x :: xs => .cons (.str x) (dp_strs xs)
theorem lay_strs : ∀ xs : List Str, (∀ x ∈ xs, PyData.strOk x = true) → PyData.canLayAll0 (xs.map PyData.str) = true
  | [], _ => rfl
  | x :: xs, h => by
    simp only [List.map_cons, PyData.canLayAll0, lay_strs xs fun y hy => h y (List.mem_cons_of_mem _ hy), Bool.and_true, PyData.canLay0]
    exact h x List.mem_cons_self
theorem depth_strs : ∀ xs : List Str, PyData.depthAll (xs.map PyData.str) ≤ 1
  | [] => by simp [PyData.depthAll]
  | x :: xs => by
    have := depth_strs xs
    simp only [List.map_cons, PyData.depthAll, PyData.depth]
    omega
theorem shaped_strs (xs : List Str) (h : ∀ x ∈ xs, PyData.strOk x = true) : SeqAt.shaped (.list (xs.map PyData.str)) = true := by
  have h1 : (PyData.list (xs.map PyData.str)).canLay0 = true := by simp only [PyData.canLay0]; exact lay_strs xs h
  have h2 : (PyData.list (xs.map PyData.str)).depth ≤ 64 := by
    have := depth_strs xs
    simp only [PyData.depth]
    omega
  unfold SeqAt.shaped
  rw [h1, decide_eq_true h2]; rfl
/-- a list of texts against an empty one -/
theorem q_emp {K : PySem.W.Frag} {H : Hp} {Q : VK} {a b : Addr} {xs : List Str} (h1 : H a = some (.lst (xs.map V.str))) (h2 : H b = some (.lst [])) (o : ∀ x ∈ xs, PyData.strOk x = true) (q : Q (.bl xs.isEmpty) H) : rEqD K (.ref a) (.ref b) H Q := by
  refine ⟨_, _, .lst (SqL.of h1) (dp_strs xs), .lst (SqL.of h2) .nil, shaped_strs xs o, shaped_strs [] (fun _ z => nomatch z), ?_⟩
  have e : PyData.eqv (.list (xs.map PyData.str)) (.list []) = xs.isEmpty := by cases xs <;> rfl
  rw [e]; exact q
/-! codes of texts -/
theorem sok_iff {x : Str} : PyData.strOk x = true ↔ ∀ c ∈ x.cps.toList, c < 0x110000 := by
  unfold PyData.strOk
  rw [← Array.all_toList, List.all_eq_true]
  simp
theorem sok_app {x y : Str} (h : PyData.strOk x = true) (k : PyData.strOk y = true) : PyData.strOk (x ++ y) = true := by
  rw [sok_iff] at *
  intro c hc
  have e : (x ++ y).cps.toList = x.cps.toList ++ y.cps.toList := Array.toList_append
  rw [e] at hc
  rcases List.mem_append.mp hc with h1 | h1
  · exact h c h1
  · exact k c h1
theorem sok_cut {x : Str} (h : PyData.strOk x = true) (lo hi : Option Int) : PyData.strOk (cutS x lo hi) = true := by
  rw [sok_iff] at *
  intro c hc
  have hc' : c ∈ ((x.cps.toList.drop (HT.sIx x.length 0 lo)).take (HT.sIx x.length x.length hi - HT.sIx x.length 0 lo)) := by
    unfold cutS at hc; simpa using hc
  exact h c (List.mem_of_mem_drop (List.mem_of_mem_take hc'))
theorem sok_one {x : Str} (h : PyData.strOk x = true) {c : Nat} (hc : c ∈ x.cps.toList) : PyData.strOk ⟨#[c]⟩ = true := by
  rw [sok_iff] at *
  intro d hd
  have : d = c := by simpa using hd
  rw [this]
  exact h c hc
theorem sok_int (i : Int) : PyData.strOk ((toString i : String) : Str) = true := by
  rw [sok_iff]
  intro c hc
  refine Decidable.byContradiction fun z => PyProof.Rows.int_text_free' c ⟨by omega, by omega⟩ i hc
theorem slen_app (x y : Str) : (x ++ y).length = x.length + y.length := by
  show (x.cps ++ y.cps).size = x.cps.size + y.cps.size
  exact Array.size_append
theorem filt_emp (l : List Nat) : (((l.filter fun c => !okc c).map fun c => (⟨#[c]⟩ : Str)).isEmpty) = l.all okc := by
  induction l with
  | nil => rfl
  | cons c l ih =>
    rw [List.filter_cons, List.all_cons]
    cases h : okc c
    · rfl
    · simpa using ih
end HP
namespace HP
open PySem PySem.Spec PyProof.Rows L2
section
variable {σ : L2.St} {H : Hp} {Q : VK} {v x y : V} {te : TE} {K : PySem.W.Frag}
theorem Same.put {H H' : Hp} {D : Addr} {o : HO} (S : Same H H') (nD : H D = none) : Same H (upd H' D o) := fun b z e => by
  rw [upd_ne (ne_of_none e nD)]; exact S b z e
theorem Go.put {bx : Addr} {H H' : Hp} {D : Addr} {o : HO} (S : Go bx H H') (nD : H D = none) : Go bx H (upd H' D o) := fun b z e n => by
  rw [upd_ne (ne_of_none e nD)]; exact S b z e n
theorem Box.put {bx : Addr} {H : Hp} {D : Addr} {o : HO} {n : Int} (h : Box H bx n) (nb : D ≠ bx) : Box (upd H D o) bx n := by
  obtain ⟨a, b, c, h1, h2⟩ := h
  exact ⟨a, b, c, by rw [upd_ne (Ne.symm nb)]; exact h1, h2⟩
theorem q_lenS {s : Str} (h : s.length ≤ 100000) (q : Q (.int s.length) H) : rLenK K [.str s] H Q := ⟨_, _, rfl, ⟨by rw [sizeLine_eq]; omega, rfl⟩, q⟩
theorem q_istr {R : It → Hp → Prop} (q : te σ H fun v H1 => ∃ x, v = .str x ∧ R (L2.Its x) H1) : iStr te σ H R := q
theorem q_istr1 {s : Str} {R : Str → Prop} (q : R s) : ∃ x, V.str s = .str x ∧ R x := ⟨s, rfl, q⟩
theorem nameB_no {s : Str} (h : ¬ (1 ≤ s.length ∧ s.length ≤ 8)) : nameB (.str s) = false := by
  show (decide (1 ≤ s.length ∧ s.length ≤ 8) && _) = false
  rw [decide_eq_false h, Bool.false_and]
theorem nameB_yes {s : Str} (h : 1 ≤ s.length ∧ s.length ≤ 8) : nameB (.str s) = s.cps.toList.all okc := by
  show (decide (1 ≤ s.length ∧ s.length ≤ 8) && _) = _
  rw [decide_eq_true h, Bool.true_and]; rfl
theorem all_ids (l : List Nat) : (l.map okc).all id = l.all okc := by
  rw [List.all_map]; rfl
theorem q_lc {wi : TI} {g : TG} {tt : TT} {vs : List Nat} (q : wi σ H fun J H1 => ∀ D, H1 D = none → ∃ W : Nat → Nat → Hp → Prop, (∃ m, W 0 m (upd H1 D (.lst []))) ∧ ∀ i m H, W i m H →
  (J.stop i H ∧ Q (.ref D) H) ∨ (J.go i H ∧ ∃ Nx : Hp → Prop, (∀ H', Nx H' → ∃ m', m' < m ∧ W (i + 1) m' H') ∧ ∀ x H', J.yld i H x H' → g x (wipe σ vs) H' fun σ2 H2 => wipe σ2 vs = wipe σ vs ∧ tt σ2 H2 fun b H3 =>
    if b = true then te σ2 H3 fun y H4 => ∃ acc, H4 D = some (.lst acc) ∧ acc.length < sizeLine ∧ Nx (upd H4 D (.lst (acc ++ [y]))) else Nx H3)) : tLc wi g tt te vs σ H Q := q
theorem q_addS {s t : Str} {R : Str → Str → Prop} (h : s.length + t.length ≤ 100000) (q : R s t) : ∃ i j, V.str s = .str i ∧ V.str t = .str j ∧ i.length + j.length ≤ sizeLine ∧ R i j := ⟨s, t, rfl, rfl, by rw [sizeLine_eq]; omega, q⟩
theorem q_m1 {to : TE} {r : V → List V → Hp → VK → Prop} (q : to σ H fun x H1 => (∃ a, x = .str a) ∧ te σ H1 fun y H2 => r x [y] H2 Q) : tM1 r to te σ H Q := q
theorem q_isS1 {s : Str} {A : Prop} (q : A) : (∃ a, V.str s = .str a) ∧ A := ⟨⟨s, rfl⟩, q⟩
theorem q_sl {r : V → Option Int → Option Int → Hp → VK → Prop} {tl th : TO} (q : te σ H fun x H1 => tl σ H1 fun l H2 => th σ H2 fun u H3 => r x l u H3 Q) : tSl r te tl th σ H Q := q
theorem q_pn {R : Option Int → Hp → Prop} (q : R none H) : tNoPart σ H R := q
theorem q_ps {R : Option Int → Hp → Prop} (q : te σ H fun x H1 => ∃ i, x = .int i ∧ R (some i) H1) : tPart te σ H R := q
theorem q_ps1 {i : Int} {R : Int → Prop} (q : R i) : ∃ j, V.int i = .int j ∧ R j := ⟨i, rfl, q⟩
theorem q_slS {s : Str} {lo hi : Option Int} (h : s.length ≤ 100000) (q : Q (.str (cutS s lo hi)) H) : rSlS (.str s) lo hi H Q := ⟨s, rfl, by rw [sizeLine_eq]; omega, q⟩
theorem q_bT {b : Bool} {A B : Prop} (e : b = true) (h : A) : if b = true then A else B := by rw [if_pos e]; exact h
theorem q_bF {b : Bool} {A B : Prop} (e : b = false) (h : B) : if b = true then A else B := by rw [e, if_neg Bool.false_ne_true]; exact h
theorem q_bnT {b : Bool} {A B : Prop} (e : b = true) (h : B) : if (!b) = true then A else B := by rw [e]; exact h
theorem q_bnF {b : Bool} {A B : Prop} (e : b = false) (h : A) : if (!b) = true then A else B := by rw [e]; exact h
end
end HP
namespace HP
open PySem PySem.Spec PyProof.Rows L2
def spComm : Sp := fun vs H Q _ => ∃ a b, vs = [.int a, .int b] ∧ Q (.int ((Nat.gcd a.natAbs b.natAbs : Nat) : Int)) H
def spDueT (K : PySem.W.Frag) : Sp := fun vs H Q _ => ∃ v bx lo hi, vs = [v, .int lo, .int hi] ∧ Th K bx H v ∧ ∀ p H', Same H H' → H p = none → H' p = some (.lst [.bl (wholeB lo hi v), .bl (nameB v), .bl (numB H v)]) → Q (.ref p) H'
theorem numB_tup {H : Hp} {a : Addr} {xs : List V} (h : H a = some (.tup xs)) : numB H (.ref a) = numV xs := by
  show (match H a with | some (.tup xs) => numV xs | _ => false) = _
  rw [h]
theorem numB_not {H : Hp} {v : V} (h : ∀ a xs, v = .ref a → H a ≠ some (.tup xs)) : numB H v = isI v := by
  cases v with
  | ref a =>
    show (match H a with | some (.tup xs) => numV xs | _ => false) = false
    split
    · rename_i z; exact absurd z (h a _ rfl)
    · rfl
  | _ => rfl
theorem numV_len {xs : List V} (h : xs.length ≠ 2) : numV xs = false := by
  unfold numV
  split
  · exact absurd rfl h
  · rfl
theorem numV_two {x y : V} (h : isI x = false ∨ isI y = false) : numV [x, y] = false := by
  unfold numV
  split
  · rename_i z
    cases z
    rcases h with h | h <;> cases h
  · rfl
theorem isI_int {v : V} (h : isI v = true) : ∃ i, v = .int i := by
  cases v with
  | int i => exact ⟨i, rfl⟩
  | _ => cases h
theorem wholeB_no {lo hi : Int} {v : V} (h : isI v = false) : wholeB lo hi v = false := by
  cases v with
  | int i => cases h
  | _ => rfl
theorem nameB_nstr {v : V} (h : isStr v = false) : nameB v = false := by
  cases v with
  | str s => cases h
  | _ => rfl
theorem isStr_str {v : V} (h : isStr v = true) : ∃ s, v = .str s := by
  cases v with
  | str s => exact ⟨s, rfl⟩
  | _ => cases h
theorem wholeB_int {lo hi i : Int} : wholeB lo hi (.int i) = (!decide (i < lo) && !decide (hi < i)) := by
  show decide (lo ≤ i ∧ i ≤ hi) = _
  by_cases h : i < lo
  · rw [decide_eq_true h, decide_eq_false (by omega)]; rfl
  · by_cases k : hi < i
    · rw [decide_eq_true k, decide_eq_false (by omega), Bool.and_comm]; rfl
    · rw [decide_eq_false h, decide_eq_false k, decide_eq_true (by omega)]; rfl
theorem numV_ints {i j : Int} : numV [.int i, .int j] = (decide (1 < j) && decide (((Nat.gcd i.natAbs j.natAbs : Nat) : Int) = 1)) := by
  show decide (2 ≤ j ∧ Nat.gcd i.natAbs j.natAbs = 1) = _
  by_cases h : 1 < j
  · rw [decide_eq_true h, Bool.true_and]
    exact decide_eq_decide.mpr ⟨fun z => by omega, fun z => ⟨by omega, by omega⟩⟩
  · rw [decide_eq_false h, decide_eq_false (by omega)]; rfl
end HP
namespace HP
open PySem PySem.Spec PyProof.Rows L2
/-! ### ways that come together -/
theorem q_asgc {te : TE} {g : TG} {D : Ends} {σ : L2.St} {H : Hp} {v : V} (h : ∀ R : VK, R v H → te σ H R) (q : g v σ H D.nx) : tAsg te g D σ H := h _ q
theorem q_asgs {te : TE} {g : TG} {D : Ends} {σ : L2.St} {H : Hp} (P : V → Hp → Prop) (h : ∀ R : VK, (∀ v H', P v H' → R v H') → te σ H R) (q : ∀ v H', P v H' → g v σ H' D.nx) : tAsg te g D σ H := h _ q
theorem q_stc {t : TS} {D : Ends} {σ : L2.St} {H : Hp} (R : L2.St → Hp → Prop) (h : ∀ D' : Ends, (∀ σ' H', R σ' H' → D'.nx σ' H') → t D' σ H) (q : ∀ σ' H', R σ' H' → D.nx σ' H') : t D σ H := h D q
theorem q_argc {te : TE} {t : TA} {σ : L2.St} {H : Hp} {v : V} {R : List V → Hp → Prop} (h : ∀ R : VK, R v H → te σ H R) (q : t σ H fun xs H2 => R (v :: xs) H2) : tCons te t σ H R := h _ q
def nmB : V → Bool
  | .str s => decide (0 < s.length ∧ s.length < 9)
  | _ => false
theorem nmB_nstr {v : V} (h : isStr v = false) : nmB v = false := by
  cases v with
  | str s => cases h
  | _ => rfl
theorem nmB_str {s : Str} : nmB (.str s) = decide (0 < s.length ∧ s.length < 9) := rfl
theorem nameB_nm {v : V} (h : nmB v = false) : nameB v = false := by
  cases v with
  | str s =>
    have z : ¬ (0 < s.length ∧ s.length < 9) := of_decide_eq_false h
    exact nameB_no (fun y => z ⟨by omega, by omega⟩)
  | _ => rfl
end HP
namespace HP
open PySem PySem.Spec PyProof.Rows L2
theorem tyS_go {K : PySem.W.Frag} {bx : Addr} {H H' : Hp} {v : V} (h : Th K bx H v) (g : Go bx H H') : tyS H' v = tyS H v := by
  cases h with
  | non => rfl
  | bl b => rfl
  | int i h => rfl
  | str s h o => rfl
  | lst e n => simp only [tyS, e, g _ _ e n]
  | tup e n l h => simp only [tyS, e, g _ _ e n]
  | dct e n => simp only [tyS, e, g _ _ e n]
  | err e n nd c o => rw [tyS_err e.e, tyS_err (g _ _ e.e n)]
theorem isS_go {K : PySem.W.Frag} {bx : Addr} {H H' : Hp} {v : V} (h : Th K bx H v) (g : Go bx H H') (t : String) : isS H' v t = isS H v t := by
  unfold isS
  rw [tyS_go h g]
theorem numB_go {K : PySem.W.Frag} {bx : Addr} {H H' : Hp} {v : V} (h : Th K bx H v) (g : Go bx H H') : numB H' v = numB H v := by
  rcases isS_tup h with ⟨e, a, xs, rfl, ha, hl, hx⟩ | ⟨e, nt⟩
  · cases h with
    | tup e2 n l h2 => rw [numB_tup e2, numB_tup (g _ _ e2 n)]
    | lst e2 n => rw [ha] at e2; cases e2
    | dct e2 n => rw [ha] at e2; cases e2
    | err e2 n nd c o => exact absurd (Option.some.inj (e2.e.symm.trans ha)) exo_tup
  · rw [numB_not nt]
    rcases isS_tup (h.go g) with ⟨e', _⟩ | ⟨e', nt'⟩
    · rw [isS_go h g, e] at e'; cases e'
    · exact numB_not nt'
end HP
namespace HP
open PySem PySem.Spec PyProof.Rows L2
/-! ### texts that are drawn -/
theorem jn_len {sep : Str} (hs : sep.length = 0) : ∀ ys : List Str, (Str.join sep ys).length = (ys.map (·.length)).sum
  | [] => rfl
  | [x] => by simp [Str.join]
  | x :: y :: r => by
    rw [PyProof.Rows.join_cons_cons, slen_app, slen_app, hs, jn_len hs (y :: r)]
    simp only [List.map_cons, List.sum_cons]; omega
theorem jn_ok {ys : List Str} (h : ∀ y ∈ ys, PyData.strOk y = true) {sep : Str} (hs : PyData.strOk sep = true) : PyData.strOk (Str.join sep ys) = true := by
  rw [sok_iff] at *
  intro c hc
  rcases (PyProof.Rows.mem_join sep c ys).mp hc with ⟨t, h1, h2⟩ | ⟨_, h2⟩
  · exact sok_iff.mp (h t h1) c h2
  · exact hs c h2
theorem ones_sum : ∀ {ys : List Str}, (∀ y ∈ ys, y.length = 1) → (ys.map (·.length)).sum = ys.length
  | [], _ => rfl
  | y :: ys, h => by
    rw [List.map_cons, List.sum_cons, ones_sum fun z hz => h z (List.mem_cons_of_mem _ hz), h y List.mem_cons_self, List.length_cons]; omega
/-- signs, one each -/
def Ones (ss : List Str) : Prop := ∀ s ∈ ss, s.length = 1 ∧ PyData.strOk s = true
theorem Ones.nil : Ones [] := fun _ h => nomatch h
theorem Ones.snoc {ss : List Str} {s : Str} (h : Ones ss) (a : s.length = 1) (b : PyData.strOk s = true) : Ones (ss ++ [s]) := fun x hx => by
  rcases List.mem_append.mp hx with h1 | h1
  · exact h x h1
  · rw [List.mem_singleton.mp h1]; exact ⟨a, b⟩
theorem q_ixS {H : Hp} {Q : VK} {z : Str} {d : Int} (h0 : 0 ≤ d) (h1 : d < z.length) (hl : z.length ≤ 100000) (ok : PyData.strOk z = true) (q : ∀ m : Str, m.length = 1 → PyData.strOk m = true → Q (.str m) H) : rIxS (.str z) (.int d) H Q := by
  obtain ⟨j, rfl⟩ := Int.eq_ofNat_of_zero_le h0
  have hj : j < z.cps.toList.length := by
    rw [Array.length_toList]
    have : z.length = z.cps.size := rfl
    omega
  exact ⟨z, j, z.cps.toList[j], rfl, rfl, by rw [sizeLine_eq]; omega, atI_nat (List.getElem?_eq_getElem hj), q _ rfl (sok_one ok (List.getElem_mem hj))⟩
/-- ''.join of signs -/
theorem jn_lim {ss : List Str} (o : Ones ss) (l : ss.length ≤ 1000000) : (ss.map (·.length)).sum + ss.length * ("" : Str).length ≤ 16777216 := by
  rw [ones_sum fun y hy => (o y hy).1, show ("" : Str).length = 0 from rfl]; omega
theorem jn_ex {ss : List Str} (o : Ones ss) : ∃ t : Str, Txt.join "" ss = t ∧ t.length = ss.length ∧ PyData.strOk t = true := by
  refine ⟨Str.join "" ss, PySem.StrLaws.glued_eq_join _ _, ?_, jn_ok (fun y hy => (o y hy).2) (by decide +kernel)⟩
  rw [jn_len rfl, ones_sum fun y hy => (o y hy).1]
def spSigns : Sp := fun vs H Q _ => vs = [] ∧ ∀ s : Str, s.length = 95 → PyData.strOk s = true → Q (.str s) H
def spLetters : Sp := fun vs H Q _ => ∃ bx n, vs = [.ref bx] ∧ Box H bx n ∧ n < 800000 ∧ ∀ (s : Str) H', s.length ≤ 30 → PyData.strOk s = true → Go bx H H' → Box H' bx (n + 30) → Q (.str s) H'
end HP
namespace HP
open PySem PySem.Spec PyProof.Rows L2
theorem al_nil {P : V → Prop} : ∀ v ∈ ([] : List V), P v := fun _ h => nomatch h
theorem al_cons {P : V → Prop} {x : V} {xs : List V} (h : P x) (t : ∀ v ∈ xs, P v) : ∀ v ∈ x :: xs, P v := fun v hv => by
  rcases List.mem_cons.mp hv with e | e
  · rw [e]; exact h
  · exact t v e
theorem al_app {P : V → Prop} {xs ys : List V} (h : ∀ v ∈ xs, P v) (t : ∀ v ∈ ys, P v) : ∀ v ∈ xs ++ ys, P v := fun v hv => by
  rcases List.mem_append.mp hv with e | e
  · exact h v e
  · exact t v e
theorem q_tpc {tk tv : TE} {r : List (TE × TE)} {σ : L2.St} {H : Hp} {R : List (V × V) → Hp → Prop} (q : tk σ H fun x H1 => tv σ H1 fun y H2 => tPairs r σ H2 fun ps H3 => R ((x, y) :: ps) H3) : tPairs ((tk, tv) :: r) σ H R := q
theorem q_tpn {σ : L2.St} {H : Hp} {R : List (V × V) → Hp → Prop} (q : R [] H) : tPairs [] σ H R := q
theorem q_dsp {trs : List (TE × TE)} {σ : L2.St} {H : Hp} {Q : VK} (q : ∀ p, H p = none → tPairs trs σ (upd H p (.dK [])) fun ps H2 => H2 p = some (.dK []) ∧ ∃ kvs : List (Key × V), ps = kvs.map (fun kv => (kV kv.1, kv.2)) ∧ kvs.length ≤ 15 ∧ Q (.ref p) (upd H2 p (.dK (mergeK [] kvs)))) : tDisp trs σ H Q := q
theorem q_reprB3 {K : PySem.W.Frag} {H : Hp} {Q : VK} {a : Addr} {b1 b2 b3 : Bool} (h : H a = some (.lst [.bl b1, .bl b2, .bl b3])) (q : Q (.str (PyData.list [.bool b1, .bool b2, .bool b3]).shown) H) : rRepr K [.ref a] H Q :=
  ⟨a, .list [.bool b1, .bool b2, .bool b3], rfl, .lst (SqL.of h) (.cons (.bl _) (.cons (.bl _) (.cons (.bl _) .nil))), rfl, rfl, by cases b1 <;> cases b2 <;> cases b3 <;> decide, by cases b1 <;> cases b2 <;> cases b3 <;> decide +kernel, q⟩
theorem int_len {i : Int} (h : Bt 1900 i) : ((toString i : String) : Str).length ≤ 40000 := by
  have hl := h.log
  exact Nat.le_trans (int_text_len_1921 (i := i) (by omega)) (by decide)
abbrev ThL (K : PySem.W.Frag) (bx : Addr) (H : Hp) (xs : List V) : Prop := ∀ v ∈ xs, Th K bx H v
theorem ThL.go {K : PySem.W.Frag} {bx : Addr} {H H' : Hp} {xs : List V} (h : ThL K bx H xs) (g : Go bx H H') : ThL K bx H' xs := fun v hv => (h v hv).go g
theorem ThL.same {K : PySem.W.Frag} {bx : Addr} {H H' : Hp} {xs : List V} (h : ThL K bx H xs) (g : Same H H') : ThL K bx H' xs := fun v hv => (h v hv).same g
def spTuples (K : PySem.W.Frag) : Sp := fun vs H Q _ => ∃ bx n, vs = [.ref bx] ∧ Box H bx n ∧ n < 800000 ∧ ∀ p xs H', H' p = some (.lst xs) → p ≠ bx → xs.length ≤ 20 → ThL K bx H' xs → Go bx H H' → Box H' bx (n + 200) → Q (.ref p) H'
def spThings (K : PySem.W.Frag) : Sp := fun vs H Q _ => ∃ bx n lo hi, vs = [.ref bx, .int lo, .int hi] ∧ Bt 600 lo ∧ Bt 600 hi ∧ Box H bx n ∧ n < 700000 ∧ ∀ p xs H', H' p = some (.lst xs) → p ≠ bx → ThL K bx H' xs → Go bx H H' → Q (.ref p) H'
theorem Erv.go {K : PySem.W.Frag} {H H' : Hp} {a C d bx : Addr} {fs : List (Str × V)} (h : Erv K H a C d fs) (g : Go bx H H') (na : a ≠ bx) (nd : d ≠ bx) : Erv K H' a C d fs := ⟨g _ _ h.e na, g _ _ h.f nd⟩
end HP
namespace HP
open PySem PySem.Spec PyProof.Rows L2
theorem bt_sub1 {x : Int} (h : Bt 600 x) : Bt 700 (x - 1) := (h.sub ((⟨by decide⟩ : Bt 1 1).mono (by decide : 1 ≤ 1))).mono (by decide)
theorem bt_add1 {x : Int} (h : Bt 600 x) : Bt 700 (x + 1) := (h.add ((⟨by decide⟩ : Bt 1 1).mono (by decide : 1 ≤ 1))).mono (by decide)
end HP
namespace HP
open PySem PySem.Spec PyProof.Rows L2
local macro_rules | `(tactic| walk_at "rd1") => `(tactic| first
  | ((with_reducible refine' q_var ?hv ?_); (case hv => exact rfl))
  | (with_reducible refine' q_c ?_)
  | (with_reducible refine' q_op ?_)
  | (with_reducible refine' q_un ?_)
  | (with_reducible refine' q_I0 ?_)
  | (with_reducible refine' q_U ?_)
  | (with_reducible refine' q_bl ?_)
  | (with_reducible refine' iteT ?_)
  | (with_reducible refine' iteF ?_)
  | (with_reducible refine' q_ntT ?_)
  | (with_reducible refine' q_ntF ?_)
  | (with_reducible refine' q_cons ?_)
  | (with_reducible refine' q_nil ?_)
  | (with_reducible refine' q_cb ?_)
  | (with_reducible refine' q_call ?_)
  | (with_reducible refine' q_callK ?_)
  | ((with_reducible refine' q_len ?hl ?_); (case hl => exact rfl))
  | (with_reducible refine' q_seq ?_)
  | (with_reducible refine' q_asg ?_)
  | (with_reducible refine' q_name ?_)
  | (with_reducible refine' q_if ?_)
  | (with_reducible refine' q_ret ?_)
  | (with_reducible refine' q_test ?_)
  | (with_reducible refine' q_B ?_)
  | (with_reducible refine' q_not ?_)
  | (with_reducible refine' q_and ?_)
  | (with_reducible refine' q_or ?_)
  | (with_reducible refine' q_andV ?_)
  | (with_reducible refine' q_orV ?_)
  | (with_reducible refine' q_notV ?_)
  | (with_reducible refine' q_ifE ?_)
  | (with_reducible refine' q_tup ?_)
  | (with_reducible refine' q_lst ?_)
  | (with_reducible refine' q_drop ?_)
  | (with_reducible refine' q_next ?_)
  | (with_reducible refine' q_par ?_)
  | (with_reducible refine' q_two ?_)
  | (with_reducible refine' q_gcons ?_)
  | (with_reducible refine' q_gnil ?_)
  | (with_reducible refine' q_gsub ?_)
  | (with_reducible refine' q_ii ?_)
  | (with_reducible refine' q_ib ?_)
  | (with_reducible refine' q_it ?_)
  | (with_reducible refine' q_gcd ?_)
  | (with_reducible refine' q_abs ?_)
  | (with_reducible refine' q_max ?_)
  | (with_reducible refine' q_min ?_)
  | (with_reducible refine' q_intb ?_)
  | (with_reducible refine' q_inti ?_)
  | (with_reducible refine' q_isint ?_)
  | (with_reducible refine' q_for ?_)
  | (with_reducible refine' q_yes ?_)
  | (with_reducible refine' q_rng ?_)
  | (with_reducible refine' q_ilst ?_)
  | (with_reducible refine' q_cont ?_)
  | (with_reducible refine' q_eqI ?_)
  | ((with_reducible refine' q_L0 ?hq ?hl ?_); (case hq => assumption); (case hl => exact rfl))
  | ((with_reducible refine' q_L1 ?hq ?hl ?_); (case hq => assumption); (case hl => exact rfl))
  | ((with_reducible refine' q_L2 ?hq ?hl ?_); (case hq => assumption); (case hl => exact rfl))
  | ((with_reducible refine' q_T0 ?hq ?hl ?_); (case hq => assumption); (case hl => exact rfl))
  | ((with_reducible refine' q_T1 ?hq ?hl ?_); (case hq => assumption); (case hl => exact rfl))
  | ((with_reducible refine' q_T2 ?hq ?hl ?_); (case hq => assumption); (case hl => exact rfl))
  | ((with_reducible refine' q_eqT ?hq ?hl ?_); (case hq => assumption); (case hl => assumption))
  | ((with_reducible refine' q_disp ?hz ?_); (case hz => exact rfl))
  | ((with_reducible refine' q_gtup ?hq ?hl ?_); (case hq => exact SqT.of (by assumption)); (case hl => exact rfl))
  | ((with_reducible refine' q_tt ?hq ?_); (case hq => assumption))
  | ((with_reducible refine' q_ti ?hq ?_); (case hq => assumption))
  | ((with_reducible refine' q_lenT ?hq ?_); (case hq => exact SqT.of (by assumption)))
  | ((with_reducible refine' q_decT ?hq ?_); (case hq => first | rfl | omega | decide))
  | ((with_reducible refine' q_decF ?hq ?_); (case hq => first | rfl | omega | decide))
  | ((with_reducible refine' q_ndecT ?hq ?_); (case hq => first | rfl | omega | decide))
  | ((with_reducible refine' q_ndecF ?hq ?_); (case hq => first | rfl | omega | decide)))
local macro_rules | `(tactic| walk_at "rd1") => `(tactic| first
  | (with_reducible refine' q_par3 ?_)
  | (with_reducible refine' q_three ?_)
  | (with_reducible refine' q_callX ?_)
  | ((with_reducible refine' q_gtup ?hq ?hl ?_); (case hq => assumption); (case hl => exact rfl))
  | ((with_reducible refine' q_ttS ?hq ?_); (case hq => assumption))
  | ((with_reducible refine' q_tiS ?hq ?_); (case hq => assumption))
  | ((with_reducible refine' q_lenT ?hq ?_); (case hq => assumption))
  | ((with_reducible refine' q_S0 ?hq ?hl ?_); (case hq => assumption); (case hl => exact rfl))
  | ((with_reducible refine' q_S1 ?hq ?hl ?_); (case hq => assumption); (case hl => exact rfl))
  | ((with_reducible refine' q_S2 ?hq ?hl ?_); (case hq => assumption); (case hl => exact rfl)))
local macro_rules | `(tactic| walk_at "rd1") => `(tactic| first
  | (with_reducible refine' q_isintG ?_)
  | (with_reducible refine' q_isNI ?_)
  | (with_reducible refine' q_isNR ?_)
  | (with_reducible refine' q_isNN ?_)
  | (with_reducible refine' q_dnew ?_)
  | (with_reducible refine' q_reprb ?_))
local macro_rules | `(tactic| walk_at "rd") => `(tactic| repeat (walk_at "rd1"))
local macro_rules | `(tactic| walk_at "rx1") => `(tactic| first
  | walk_at "rd1"
  | (with_reducible refine' q_chain ?_)
  | (with_reducible refine' q_lc ?_)
  | (with_reducible refine' q_istr ?_)
  | (with_reducible refine' q_istr1 ?_)
  | (with_reducible refine' q_m1 ?_)
  | (with_reducible refine' q_isS1 ?_)
  | (with_reducible refine' q_sl ?_)
  | (with_reducible refine' q_pn ?_)
  | (with_reducible refine' q_ps ?_)
  | (with_reducible refine' q_ps1 ?_)
  | ((with_reducible refine' q_lenS ?hl ?_); (case hl => omega))
  | ((with_reducible refine' q_bT ?hl ?_); (case hl => first | assumption | rfl))
  | ((with_reducible refine' q_bF ?hl ?_); (case hl => first | assumption | rfl))
  | ((with_reducible refine' q_bnT ?hl ?_); (case hl => first | assumption | rfl))
  | ((with_reducible refine' q_bnF ?hl ?_); (case hl => first | assumption | rfl)))
local macro_rules | `(tactic| walk_at "rx") => `(tactic| repeat (walk_at "rx1"))
local macro_rules | `(tactic| walk_at "rs1") => `(tactic| first
  | (with_reducible refine' q_name ?_)
  | (with_reducible refine' q_seq ?_)
  | (with_reducible refine' q_next ?_))
local macro_rules | `(tactic| walk_at "rs") => `(tactic| repeat (walk_at "rs1"))
local macro_rules | `(tactic| walk_at "rx1") => `(tactic| first
  | (with_reducible refine' q_tpc ?_)
  | (with_reducible refine' q_tpn ?_)
  | (with_reducible refine' q_dsp ?_)
  | (with_reducible refine' q_mkv ?_))
local macro_rules | `(tactic| walk_at "rx1") => `(tactic| first
  | (with_reducible refine' q_js ?_)
  | (with_reducible refine' q_jn ?_)
  | (with_reducible refine' q_fmt ?_))
local macro_rules | `(tactic| walk_at "rx1") => `(tactic| first
  | (with_reducible refine' q_bm ?_)
  | ((with_reducible refine' q_tyL ?hl ?_); (case hl => assumption)))
local macro_rules | `(tactic| walk_at "rs1") => `(tactic| first
  | (with_reducible refine' q_name ?_)
  | (with_reducible refine' q_seq ?_)
  | (with_reducible refine' q_next ?_)
  | (with_reducible refine' q_gcons ?_)
  | (with_reducible refine' q_gnil ?_)
  | ((with_reducible refine' q_gtup ?hq ?hl ?_); (case hq => exact SqT.of (by assumption)); (case hl => exact rfl)))
local macro_rules | `(tactic| walk_at "rx1") => `(tactic| first
  | (with_reducible refine' q_seqI ?_)
  | (with_reducible refine' q_bm0 ?_)
  | (with_reducible refine' q_revL ?_)
  | (with_reducible refine' q_zip ?_))
local macro_rules | `(tactic| walk_at "rx1") => `(tactic| first
  | (with_reducible refine' q_dget ?_))
local macro_rules | `(tactic| walk_at "rx1") => `(tactic| first
  | (with_reducible refine' q_enumS ?_))
def topS (i : Nat) : Stmt := PySem.Challenge.pw_hintedpoints_k09_places_moved.main.body.getD i (.Pass ⟨0, 0, 0, 0⟩)
structure Bl (mg : Str → Option Value) : Prop where
  b_isinstance : mg "isinstance" = none
  b_bool : mg "bool" = none
  b_int : mg "int" = none
  b_gcd : mg "gcd" = some (.builtin "math.gcd")
  b_len : mg "len" = none
  b_tuple : mg "tuple" = none
  b_all : mg "all" = none
  b_LONGEST : ∃ t, mg "LONGEST" = some (.int 1000 t)
  b_max : mg "max" = none
  b_range : mg "range" = none
  b_abs : mg "abs" = none
  b_min : mg "min" = none
section
variable {P : Program} {w : World} {K : PySem.W.Frag} {mg : Str → Option Value} {base : Heap}
variable {a_EAST : Addr}
theorem fn_init_NoWay {C f : Addr} {fd : FuncData} (F : Fun K "__init__" "NoWay.__init__" (inClass (topS 5) 0) f fd) (T : OexC K C) (nF : PySem.W.findIn K (.ref C) "found" = some none) : FnOk P w K mg base CX0 1 f fd ["self", "found"] (spN 2 (spErr C)) := by
  refine F.ok (N := ["self", "found"]) ⟨rfl, rfl, rfl, by decide +kernel, rfl, by decide +kernel, by decide +kernel⟩ (fun _ _ _ _ h => h.1) (fun cdv A outer s H vs Q E hr h => ?_)
  obtain ⟨_, a, v, rfl, ha, q⟩ := h
  refine ⟨_, pss_one (ps_ost (pv 0) (pv 1)), ?_⟩
  exact ⟨v, rfl, .ref a, rfl, a, C, rfl, T, nF, .inl ⟨ha, fun dx nx ne => q dx nx ne⟩⟩

abbrev s_is_int : Stmt := topS 8
theorem sc_is_int : FnScope ["thing"] ["thing"] (defScope s_is_int) := ⟨rfl, rfl, rfl, by decide +kernel, rfl, by decide +kernel, by decide +kernel⟩
theorem fn_is_int {f : Addr} {fd : FuncData} (F : Fun K "is_int" "is_int" s_is_int f fd) (B : Bl mg)  : FnOk P w K mg base CX0 1 f fd ["thing"] (spN 1 spIsInt) := by
  refine fnN F sc_is_int (fun cdv A outer s H vs Q E hr h => ?_)
  obtain ⟨i, rfl, q⟩ := h
  refine ⟨_, (pss_one (ps_ret (pe_and (pe_callB call_isi (by rfl) B.b_isinstance (by decide +kernel) (pa_cons (pv 0) (pa_cons (pe_bltn (v := .ty "int") (by rfl) B.b_int (by decide +kernel) rfl) pa_nil))) (pe_one (pe_not (pe_callB call_isi (by rfl) B.b_isinstance (by decide +kernel) (pa_cons (pv 0) (pa_cons (pe_bltn (v := .ty "bool") (by rfl) B.b_bool (by decide +kernel) rfl) pa_nil)))))))), ?_⟩
  walk_at "rd"
  exact q

abbrev s_is_whole : Stmt := topS 9
theorem sc_is_whole : FnScope ["thing", "low", "high"] ["thing", "low", "high"] (defScope s_is_whole) := ⟨rfl, rfl, rfl, by decide +kernel, rfl, by decide +kernel, by decide +kernel⟩
theorem fn_is_whole {f : Addr} {fd : FuncData} (F : Fun K "is_whole" "is_whole" s_is_whole f fd) (B : Bl mg) (c_is_int : Cal P w K mg base 1 "is_int" ["thing"] spIsInt) : FnOk P w K mg base CX0 2 f fd ["thing", "low", "high"] (spN 3 spIsWhole) := by
  refine fnN F sc_is_whole (fun cdv A outer s H vs Q E hr h => ?_)
  obtain ⟨i, lo, hi, rfl, h1, h2, q⟩ := h
  refine ⟨_, (pss_one (ps_ret (pe_and (pe_cal c_is_int hr (by decide) (by rfl) (pa_cons (pv 0) pa_nil)) (pe_one (pe_chain op_le op_le (pv 1) (pv 0) (pv 2)))))), ?_⟩
  walk_at "rd"
  refine q_chain ?_
  walk_at "rd"
  rw [decide_eq_true h2]
  exact q

abbrev s_is_number : Stmt := topS 10
theorem sc_is_number : FnScope ["thing", "top", "base"] ["thing"] (defScope s_is_number) := ⟨rfl, rfl, rfl, by decide +kernel, rfl, by decide +kernel, by decide +kernel⟩
theorem fn_is_number {f : Addr} {fd : FuncData} (F : Fun K "is_number" "is_number" s_is_number f fd) (B : Bl mg) (c_is_int : Cal P w K mg base 1 "is_int" ["thing"] spIsInt) : FnOk P w K mg base CX0 2 f fd ["thing"] (spN 1 spIsNum) := by
  refine fnN F sc_is_number (fun cdv A outer s H vs Q E hr h => ?_)
  obtain ⟨v, t, b, rfl, N, q⟩ := h
  refine ⟨_, (pss_cons (ps_if (pt_not (pt_val (pe_callB call_isi (by rfl) B.b_isinstance (by decide +kernel) (pa_cons (pv 0) (pa_cons (pe_bltn (v := .ty "tuple") (by rfl) B.b_tuple (by decide +kernel) rfl) pa_nil))))) (pss_one (ps_ret (pe_cal c_is_int hr (by decide) (by rfl) (pa_cons (pv 0) pa_nil)))) pss_nil)
      (pss_cons (ps_if (pt_cmpR op_neI (pe_callB call_lenK (by rfl) B.b_len (by decide +kernel) (pa_cons (pv 0) pa_nil)) pe_int (nomark _)) (pss_one (ps_ret pe_bl)) pss_nil)
      (pss_cons (ps_asg (pv 0) (pg_tup (by rfl) (pgs_cons (pg_name (i := 1) sc_is_number.nd rfl (.inl rfl)) (pgs_cons (pg_name (i := 2) sc_is_number.nd rfl (.inl rfl)) pgs_nil))))
      (pss_one (ps_ret (pe_and (pe_cal c_is_int hr (by decide) (by rfl) (pa_cons (pv 1) pa_nil)) (pe_and (pe_cal c_is_int hr (by decide) (by rfl) (pa_cons (pv 2) pa_nil)) (pe_and (pe_cmpR op_ge (pv 2) pe_int (nomark _)) (pe_one (pe_cmpR op_eqI (pe_callBfun cr_gcd (by rfl) B.b_gcd (pa_cons (pv 1) (pa_cons (pv 2) pa_nil))) pe_int (nomark _))))))))))), ?_⟩
  rcases N with ⟨rfl, rfl⟩ | ⟨a, rfl, ha, hb, hc⟩
  · walk_at "rd"
    exact q
  · walk_at "rd"
    have e : ((Nat.gcd t.natAbs b.natAbs : Nat) : Int) = 1 := by
      rw [show Nat.gcd t.natAbs b.natAbs = 1 from hc]
      rfl
    rw [decide_eq_true e]
    exact q

abbrev s_need_number : Stmt := topS 11
theorem sc_need_number : FnScope ["thing"] ["thing"] (defScope s_need_number) := ⟨rfl, rfl, rfl, by decide +kernel, rfl, by decide +kernel, by decide +kernel⟩
theorem fn_need_number {f : Addr} {fd : FuncData} (F : Fun K "need_number" "need_number" s_need_number f fd) (B : Bl mg) (c_is_number : Cal P w K mg base 2 "is_number" ["thing"] spIsNum) : FnOk P w K mg base CX0 3 f fd ["thing"] (spN 1 spNeed) := by
  refine fnN F sc_need_number (fun cdv A outer s H vs Q E hr h => ?_)
  obtain ⟨v, t, b, rfl, N, q⟩ := h
  refine ⟨_, (pss_one (ps_if (pt_not (pt_val (pe_cal c_is_number hr (by decide) (by rfl) (pa_cons (pv 0) pa_nil)))) (pss_one ps_never) pss_nil)), ?_⟩
  walk_at "rd"
  refine ⟨v, t, b, rfl, N, ?_⟩
  walk_at "rd"
  exact q

abbrev s_pair_of : Stmt := topS 12
theorem sc_pair_of : FnScope ["number"] ["number"] (defScope s_pair_of) := ⟨rfl, rfl, rfl, by decide +kernel, rfl, by decide +kernel, by decide +kernel⟩
theorem fn_pair_of {f : Addr} {fd : FuncData} (F : Fun K "pair_of" "pair_of" s_pair_of f fd) (B : Bl mg)  : FnOk P w K mg base CX0 1 f fd ["number"] (spN 1 spPair) := by
  refine fnN F sc_pair_of (fun cdv A outer s H vs Q E hr h => ?_)
  obtain ⟨v, t, b, rfl, N, q⟩ := h
  refine ⟨_, (pss_cons (ps_if (pt_val (pe_callB call_isi (by rfl) B.b_isinstance (by decide +kernel) (pa_cons (pv 0) (pa_cons (pe_bltn (v := .ty "tuple") (by rfl) B.b_tuple (by decide +kernel) rfl) pa_nil)))) (pss_one (ps_ret (pv 0))) pss_nil)
      (pss_one (ps_ret (pe_tup (pa_cons (pv 0) (pa_cons pe_int pa_nil)))))), ?_⟩
  rcases N with ⟨rfl, rfl⟩ | ⟨a, rfl, ha, hb, hc⟩
  · walk_at "rd"
    exact fun p np => q p _ (Same.up np) upd_same
  · walk_at "rd"
    exact q a H (Same.refl H) ha

abbrev s_lowest : Stmt := topS 13
theorem sc_lowest : FnScope ["top", "base", "shared"] ["top", "base"] (defScope s_lowest) := ⟨rfl, rfl, rfl, by decide +kernel, rfl, by decide +kernel, by decide +kernel⟩
theorem fn_lowest {f : Addr} {fd : FuncData} (F : Fun K "lowest" "lowest" s_lowest f fd) (B : Bl mg)  : FnOk P w K mg base CX0 1 f fd ["top", "base"] (spN 2 spLow) := by
  refine fnN F sc_lowest (fun cdv A outer s H vs Q E hr h => ?_)
  obtain ⟨t, b, rfl, hb, B1, B2, q⟩ := h
  refine ⟨_, (pss_cons (ps_set (i := 2) sc_lowest.nd rfl (.inl rfl) (pe_callBfun cr_gcd (by rfl) B.b_gcd (pa_cons (pv 0) (pa_cons (pv 1) pa_nil))))
      (pss_cons (ps_if (pt_cmpR op_lt (pv 1) pe_int (nomark _)) (pss_one (ps_set (i := 2) sc_lowest.nd rfl (.inl rfl) (pe_un un_neg (pv 2)))) pss_nil)
      (pss_cons (ps_if (pt_cmpR op_eqI (pv 1) (pv 2) (nomark _)) (pss_one (ps_ret (pe_op op_fdivA (pv 0) (pv 2)))) pss_nil)
      (pss_one (ps_ret (pe_tup (pa_cons (pe_op op_fdivA (pv 0) (pv 2)) (pa_cons (pe_op op_fdivA (pv 1) (pv 2)) pa_nil)))))))), ?_⟩
  obtain ⟨t', b', C⟩ := cut_of (t := t) hb
  walk_at "rd"
  refine q_dec (fun e0 => ?_) (fun e0 => ?_)
  · have es : gsg t b = -((Nat.gcd t.natAbs b.natAbs : Nat) : Int) := by
      unfold gsg
      rw [if_pos e0]
    rw [es] at C
    have dv := divA (i := t) C.ns (B2.le C.ss) (by decide)
    have dv2 := divA (i := b) C.ns (B2.le C.ss) (by decide)
    walk_at "rd"
    refine q_dec (fun e => ?_) (fun e => ?_)
    · walk_at "rd"
      refine q_I dv ?_
      rw [C.ft]
      refine q _ _ _ _ (Same.refl H) (.inl ⟨rfl, C.one.mp e⟩) C.low
    · walk_at "rd"
      refine q_I dv ?_
      walk_at "rd"
      refine q_I dv2 ?_
      walk_at "rd"
      intro p np
      rw [C.ft, C.fb]
      have h1 : b' ≠ 1 := fun z => e (C.one.mpr z)
      have h2 := C.p
      exact q _ _ _ _ (Same.up np) (.inr ⟨p, rfl, upd_same, by omega, C.c⟩) C.low
  · have es : gsg t b = ((Nat.gcd t.natAbs b.natAbs : Nat) : Int) := by
      unfold gsg
      rw [if_neg e0]
    rw [es] at C
    have dv := divA (i := t) C.ns (B2.le C.ss) (by decide)
    have dv2 := divA (i := b) C.ns (B2.le C.ss) (by decide)
    walk_at "rd"
    refine q_dec (fun e => ?_) (fun e => ?_)
    · walk_at "rd"
      refine q_I dv ?_
      rw [C.ft]
      refine q _ _ _ _ (Same.refl H) (.inl ⟨rfl, C.one.mp e⟩) C.low
    · walk_at "rd"
      refine q_I dv ?_
      walk_at "rd"
      refine q_I dv2 ?_
      walk_at "rd"
      intro p np
      rw [C.ft, C.fb]
      have h1 : b' ≠ 1 := fun z => e (C.one.mpr z)
      have h2 := C.p
      exact q _ _ _ _ (Same.up np) (.inr ⟨p, rfl, upd_same, by omega, C.c⟩) C.low

abbrev s__added : Stmt := topS 14
theorem sc__added : FnScope ["one", "other", "top", "base", "other_top", "other_base", "shared", "common"] ["one", "other"] (defScope s__added) := ⟨rfl, rfl, rfl, by decide +kernel, rfl, by decide +kernel, by decide +kernel⟩
theorem fn__added {f : Addr} {fd : FuncData} (F : Fun K "_added" "_added" s__added f fd) (B : Bl mg) (c_pair_of : Cal P w K mg base 1 "pair_of" ["number"] spPair) : FnOk P w K mg base CX0 2 f fd ["one", "other"] (spN 2 spAdd) := by
  refine fnN F sc__added (fun cdv A outer s H vs Q E hr h => ?_)
  obtain ⟨x, y, t, b, s0, d, rfl, N1, N2, B1, B2, B3, B4, q⟩ := h
  refine ⟨_, (pss_cons (ps_asg (pe_cal c_pair_of hr (by decide) (by rfl) (pa_cons (pv 0) pa_nil)) (pg_tup (by rfl) (pgs_cons (pg_name (i := 2) sc__added.nd rfl (.inl rfl)) (pgs_cons (pg_name (i := 3) sc__added.nd rfl (.inl rfl)) pgs_nil))))
      (pss_cons (ps_asg (pe_cal c_pair_of hr (by decide) (by rfl) (pa_cons (pv 1) pa_nil)) (pg_tup (by rfl) (pgs_cons (pg_name (i := 4) sc__added.nd rfl (.inl rfl)) (pgs_cons (pg_name (i := 5) sc__added.nd rfl (.inl rfl)) pgs_nil))))
      (pss_cons (ps_set (i := 6) sc__added.nd rfl (.inl rfl) (pe_callBfun cr_gcd (by rfl) B.b_gcd (pa_cons (pv 3) (pa_cons (pv 5) pa_nil))))
      (pss_cons (ps_set (i := 2) sc__added.nd rfl (.inl rfl) (pe_op op_add (pe_op op_mulW (pv 2) (pe_op op_fdivA (pv 5) (pv 6))) (pe_op op_mulW (pv 4) (pe_op op_fdivA (pv 3) (pv 6)))))
      (pss_cons (ps_set (i := 7) sc__added.nd rfl (.inl rfl) (pe_callBfun cr_gcd (by rfl) B.b_gcd (pa_cons (pv 2) (pa_cons (pv 6) pa_nil))))
      (pss_cons (ps_set (i := 2) sc__added.nd rfl (.inl rfl) (pe_op op_fdivA (pv 2) (pv 7)))
      (pss_cons (ps_set (i := 3) sc__added.nd rfl (.inl rfl) (pe_op op_mulW (pe_op op_fdivA (pv 3) (pv 6)) (pe_op op_fdivA (pv 5) (pv 7))))
      (pss_cons (ps_if (pt_cmpR op_eqI (pv 3) pe_int (nomark _)) (pss_one (ps_ret (pv 2))) pss_nil)
      (pss_one (ps_ret (pe_tup (pa_cons (pv 2) (pa_cons (pv 3) pa_nil))))))))))))), ?_⟩
  walk_at "rd"
  refine ⟨x, t, b, rfl, N1, fun p H1 S1 hp => ?_⟩
  walk_at "rd"
  refine ⟨y, s0, d, rfl, N2.same S1, fun p2 H2 S2 hp2 => ?_⟩
  walk_at "rd"
  have M := add_math N1.pos N2.pos N1.cop N2.cop
  have Bg : Bt 2000 ((Nat.gcd b.natAbs d.natAbs : Nat) : Int) := B2.le M.gb
  have Bc := Bg.le M.cg
  have gn := M.g0
  have cn := M.c0
  have Bdg : Bt 2000 (d.fdiv ((Nat.gcd b.natAbs d.natAbs : Nat) : Int)) := B4.le (fdiv_abs M.g0)
  have Bbg : Bt 2000 (b.fdiv ((Nat.gcd b.natAbs d.natAbs : Nat) : Int)) := B2.le (fdiv_abs M.g0)
  generalize ((Nat.gcd b.natAbs d.natAbs : Nat) : Int) = g at *
  refine q_I (divA (by omega) Bg (by decide)) ?_
  walk_at "rd"
  refine q_I (mulW B1 Bdg (by decide)) ?_
  walk_at "rd"
  refine q_I (divA (by omega) Bg (by decide)) ?_
  walk_at "rd"
  refine q_I (mulW B3 Bbg (by decide)) ?_
  walk_at "rd"
  generalize ((Nat.gcd (t * d.fdiv g + s0 * b.fdiv g).natAbs g.natAbs : Nat) : Int) = c at *
  refine q_I (divA (by omega) Bc (by decide)) ?_
  walk_at "rd"
  refine q_I (divA (by omega) Bg (by decide)) ?_
  walk_at "rd"
  refine q_I (divA (by omega) Bc (by decide)) ?_
  walk_at "rd"
  refine q_I (mulW Bbg (B4.le (fdiv_abs M.c0)) (by decide)) ?_
  walk_at "rd"
  have hbd : b * d ≠ 0 := Int.mul_ne_zero (by have := N1.pos; omega) (by have := N2.pos; omega)
  have L := low_of hbd M.p M.cp M.eq
  refine q_dec (fun e => ?_) (fun e => ?_)
  · walk_at "rd"
    exact q _ _ _ _ (S1.trans S2) (.inl ⟨rfl, e⟩) L
  · walk_at "rd"
    intro p3 np
    have := M.p
    exact q _ _ _ _ ((S1.trans S2).trans (Same.up np)) (.inr ⟨p3, rfl, upd_same, by omega, M.cp⟩) L

abbrev s_plus : Stmt := topS 15
theorem sc_plus : FnScope ["one", "other"] ["one", "other"] (defScope s_plus) := ⟨rfl, rfl, rfl, by decide +kernel, rfl, by decide +kernel, by decide +kernel⟩
theorem fn_plus {f : Addr} {fd : FuncData} (F : Fun K "plus" "plus" s_plus f fd) (B : Bl mg) (c__added : Cal P w K mg base 2 "_added" ["one", "other"] spAdd) (c_need_number : Cal P w K mg base 3 "need_number" ["thing"] spNeed) : FnOk P w K mg base CX0 4 f fd ["one", "other"] (spN 2 spAdd) := by
  refine fnN F sc_plus (fun cdv A outer s H vs Q E hr h => ?_)
  obtain ⟨x, y, t, b, s0, d, rfl, N1, N2, B1, B2, B3, B4, q⟩ := h
  refine ⟨_, (pss_cons (ps_expr (pe_cal c_need_number hr (by decide) (by rfl) (pa_cons (pv 0) pa_nil)))
      (pss_cons (ps_expr (pe_cal c_need_number hr (by decide) (by rfl) (pa_cons (pv 1) pa_nil)))
      (pss_one (ps_ret (pe_cal c__added hr (by decide) (by rfl) (pa_cons (pv 0) (pa_cons (pv 1) pa_nil))))))), ?_⟩
  walk_at "rd"
  refine ⟨x, t, b, rfl, N1, ?_⟩
  walk_at "rd"
  refine ⟨y, s0, d, rfl, N2, ?_⟩
  walk_at "rd"

  exact ⟨x, y, t, b, s0, d, rfl, N1, N2, B1, B2, B3, B4, q⟩

abbrev s_times : Stmt := topS 16
theorem sc_times : FnScope ["one", "other", "top", "base", "other_top", "other_base"] ["one", "other"] (defScope s_times) := ⟨rfl, rfl, rfl, by decide +kernel, rfl, by decide +kernel, by decide +kernel⟩
theorem fn_times {f : Addr} {fd : FuncData} (F : Fun K "times" "times" s_times f fd) (B : Bl mg) (c_lowest : Cal P w K mg base 1 "lowest" ["top", "base"] spLow) (c_pair_of : Cal P w K mg base 1 "pair_of" ["number"] spPair) (c_need_number : Cal P w K mg base 3 "need_number" ["thing"] spNeed) : FnOk P w K mg base CX0 4 f fd ["one", "other"] (spN 2 spMul) := by
  refine fnN F sc_times (fun cdv A outer s H vs Q E hr h => ?_)
  obtain ⟨x, y, t, b, s0, d, rfl, N1, N2, B1, B2, B3, B4, q⟩ := h
  refine ⟨_, (pss_cons (ps_expr (pe_cal c_need_number hr (by decide) (by rfl) (pa_cons (pv 0) pa_nil)))
      (pss_cons (ps_expr (pe_cal c_need_number hr (by decide) (by rfl) (pa_cons (pv 1) pa_nil)))
      (pss_cons (ps_asg (pe_cal c_pair_of hr (by decide) (by rfl) (pa_cons (pv 0) pa_nil)) (pg_tup (by rfl) (pgs_cons (pg_name (i := 2) sc_times.nd rfl (.inl rfl)) (pgs_cons (pg_name (i := 3) sc_times.nd rfl (.inl rfl)) pgs_nil))))
      (pss_cons (ps_asg (pe_cal c_pair_of hr (by decide) (by rfl) (pa_cons (pv 1) pa_nil)) (pg_tup (by rfl) (pgs_cons (pg_name (i := 4) sc_times.nd rfl (.inl rfl)) (pgs_cons (pg_name (i := 5) sc_times.nd rfl (.inl rfl)) pgs_nil))))
      (pss_one (ps_ret (pe_cal c_lowest hr (by decide) (by rfl) (pa_cons (pe_op op_mulW (pv 2) (pv 4)) (pa_cons (pe_op op_mulW (pv 3) (pv 5)) pa_nil))))))))), ?_⟩
  walk_at "rd"
  refine ⟨x, t, b, rfl, N1, ?_⟩
  walk_at "rd"
  refine ⟨y, s0, d, rfl, N2, ?_⟩
  walk_at "rd"

  refine ⟨x, t, b, rfl, N1, fun p H1 S1 hp => ?_⟩
  walk_at "rd"
  refine ⟨y, s0, d, rfl, N2.same S1, fun p2 H2 S2 hp2 => ?_⟩
  walk_at "rd"
  refine q_I (mulW B1 B3 (by decide)) ?_
  walk_at "rd"
  refine q_I (mulW B2 B4 (by decide)) ?_
  walk_at "rd"
  have hbd : b * d ≠ 0 := Int.mul_ne_zero (by have := N1.pos; omega) (by have := N2.pos; omega)
  exact ⟨_, _, rfl, hbd, (B1.mul B3).mono (by decide), (B2.mul B4).mono (by decide), fun v H3 t' b' S3 N L => q v H3 t' b' ((S1.trans S2).trans S3) N L⟩

abbrev s_over : Stmt := topS 17
theorem sc_over : FnScope ["one", "other", "top", "base", "other_top", "other_base"] ["one", "other"] (defScope s_over) := ⟨rfl, rfl, rfl, by decide +kernel, rfl, by decide +kernel, by decide +kernel⟩
theorem fn_over {f : Addr} {fd : FuncData} (F : Fun K "over" "over" s_over f fd) (B : Bl mg) (c_lowest : Cal P w K mg base 1 "lowest" ["top", "base"] spLow) (c_pair_of : Cal P w K mg base 1 "pair_of" ["number"] spPair) (c_need_number : Cal P w K mg base 3 "need_number" ["thing"] spNeed) : FnOk P w K mg base CX0 4 f fd ["one", "other"] (spN 2 spOver) := by
  refine fnN F sc_over (fun cdv A outer s H vs Q E hr h => ?_)
  obtain ⟨x, y, t, b, s0, d, rfl, N1, N2, hs, B1, B2, B3, B4, q⟩ := h
  refine ⟨_, (pss_cons (ps_expr (pe_cal c_need_number hr (by decide) (by rfl) (pa_cons (pv 0) pa_nil)))
      (pss_cons (ps_expr (pe_cal c_need_number hr (by decide) (by rfl) (pa_cons (pv 1) pa_nil)))
      (pss_cons (ps_if (pt_cmpR (op_eqD hr.units) (pv 1) pe_int (nomark _)) (pss_one ps_never) pss_nil)
      (pss_cons (ps_asg (pe_cal c_pair_of hr (by decide) (by rfl) (pa_cons (pv 0) pa_nil)) (pg_tup (by rfl) (pgs_cons (pg_name (i := 2) sc_over.nd rfl (.inl rfl)) (pgs_cons (pg_name (i := 3) sc_over.nd rfl (.inl rfl)) pgs_nil))))
      (pss_cons (ps_asg (pe_cal c_pair_of hr (by decide) (by rfl) (pa_cons (pv 1) pa_nil)) (pg_tup (by rfl) (pgs_cons (pg_name (i := 4) sc_over.nd rfl (.inl rfl)) (pgs_cons (pg_name (i := 5) sc_over.nd rfl (.inl rfl)) pgs_nil))))
      (pss_one (ps_ret (pe_cal c_lowest hr (by decide) (by rfl) (pa_cons (pe_op op_mulW (pv 2) (pv 5)) (pa_cons (pe_op op_mulW (pv 3) (pv 4)) pa_nil)))))))))), ?_⟩
  walk_at "rd"
  refine ⟨x, t, b, rfl, N1, ?_⟩
  walk_at "rd"
  refine ⟨y, s0, d, rfl, N2, ?_⟩
  walk_at "rd"

  refine q_num0 N2 ?_
  walk_at "rd"
  refine ⟨x, t, b, rfl, N1, fun p H1 S1 hp => ?_⟩
  walk_at "rd"
  refine ⟨y, s0, d, rfl, N2.same S1, fun p2 H2 S2 hp2 => ?_⟩
  walk_at "rd"
  refine q_I (mulW B1 B4 (by decide)) ?_
  walk_at "rd"
  refine q_I (mulW B2 B3 (by decide)) ?_
  walk_at "rd"
  have hbd : b * s0 ≠ 0 := Int.mul_ne_zero (by have := N1.pos; omega) hs
  exact ⟨_, _, rfl, hbd, (B1.mul B4).mono (by decide), (B2.mul B3).mono (by decide), fun v H3 t' b' S3 N L => q v H3 t' b' ((S1.trans S2).trans S3) N L⟩

abbrev s_is_place : Stmt := topS 21
theorem sc_is_place : FnScope ["thing", "part"] ["thing"] (defScope s_is_place) := ⟨rfl, rfl, rfl, by decide +kernel, rfl, by decide +kernel, by decide +kernel⟩
theorem fn_is_place {f : Addr} {fd : FuncData} (F : Fun K "is_place" "is_place" s_is_place f fd) (B : Bl mg) (cq_is_number : Cal P w K mg base 2 "is_number" ["thing"] spIsNumQ) : FnOk P w K mg base CX0 3 f fd ["thing"] (spN 1 (spIsPl K)) := by
  refine fnN F sc_is_place (fun cdv A outer s H vs Q E hr h => ?_)
  obtain ⟨v, x, y, rfl, ⟨p, vx, vy, rfl, hp, Nx, Ny⟩, q⟩ := h
  refine ⟨_, (pss_one (ps_ret (pe_and (pe_callB call_isi (by rfl) B.b_isinstance (by decide +kernel) (pa_cons (pv 0) (pa_cons (pe_bltn (v := .ty "tuple") (by rfl) B.b_tuple (by decide +kernel) rfl) pa_nil))) (pe_and (pe_cmpR op_eqI (pe_callB call_lenK (by rfl) B.b_len (by decide +kernel) (pa_cons (pv 0) pa_nil)) pe_int (nomark _)) (pe_one (pe_callB (cr_all rfl) (by rfl) B.b_all (by decide +kernel) (pa_cons (pe_lc (own := [("part", 1)]) (g := gName 1) (tt := tYes) (by rfl) sc_is_place.nd (pi_tup (pv 0)) (blkOk_by (own := [("part", 1)]) (N := ["thing", "part"]) (sc := defScope s_is_place) (by decide +kernel)) (fun _ _ _ _ _ => pg_name (i := 1) sc_is_place.nd rfl (.inl rfl)) (fun _ _ _ _ _ => pts_nil) (fun _ _ _ _ _ => (pe_cal cq_is_number hr (by decide) (by rfl) (pa_cons (pv 1) pa_nil)))) pa_nil))))))), ?_⟩
  walk_at "rd"
  refine ⟨_, rfl, p, rfl, ⟨_, hp⟩, fun D nD => ?_⟩
  refine lc_tup (K := K) (a := p) (xs := [vx, vy]) (fun i H' => i ≤ 2 ∧ Same H H' ∧ H' D = some (.lst ((List.replicate i true).map V.bl))) ⟨by decide, Same.up nD, upd_same⟩ (fun _ _ _ ⟨_, s, _⟩ => sqt_same hp s) ?_ ?_
  · rintro i z H1 hz ⟨hi, S1, hD⟩
    walk_at "rd"
    refine ⟨rfl, ?_⟩
    walk_at "rd"
    obtain ⟨r, N⟩ : ∃ r, NQ H1 z r := by
      have hm := List.mem_of_getElem? hz
      rcases List.mem_cons.mp hm with e | hm
      · exact ⟨x, e ▸ Nx.same S1⟩
      rcases List.mem_cons.mp hm with e | hm
      · exact ⟨y, e ▸ Ny.same S1⟩
      · cases hm
    have hi2 : i < 2 := (List.getElem?_eq_some_iff.mp hz).1
    refine ⟨z, r, rfl, N, ?_⟩
    refine ⟨_, hD, small1000 (by rw [List.length_map, List.length_replicate]; omega), by omega, fun b o e => ?_, ?_⟩
    · rw [upd_ne (ne_of_none e nD)]
      exact S1 b o e
    · rw [upd_same, List.replicate_succ', List.map_append]
      rfl
  · rintro H1 ⟨_, S1, hD⟩
    walk_at "rd"
    refine ⟨D, List.replicate 2 true, rfl, SqL.of hD, ?_⟩
    exact q H1 S1

abbrev s_need_place : Stmt := topS 22
theorem sc_need_place : FnScope ["thing"] ["thing"] (defScope s_need_place) := ⟨rfl, rfl, rfl, by decide +kernel, rfl, by decide +kernel, by decide +kernel⟩
theorem fn_need_place {f : Addr} {fd : FuncData} (F : Fun K "need_place" "need_place" s_need_place f fd) (B : Bl mg) (c_is_place : Cal P w K mg base 3 "is_place" ["thing"] (spIsPl K)) : FnOk P w K mg base CX0 4 f fd ["thing"] (spN 1 (spNeedPl K)) := by
  refine fnN F sc_need_place (fun cdv A outer s H vs Q E hr h => ?_)
  obtain ⟨v, x, y, rfl, P1, q⟩ := h
  refine ⟨_, (pss_one (ps_if (pt_not (pt_val (pe_cal c_is_place hr (by decide) (by rfl) (pa_cons (pv 0) pa_nil)))) (pss_one ps_never) pss_nil)), ?_⟩
  walk_at "rd"
  refine ⟨v, x, y, rfl, P1, fun H1 S1 => ?_⟩
  walk_at "rd"
  exact q H1 S1

abbrev s_is_way : Stmt := topS 23
theorem sc_is_way : FnScope ["thing", "a", "b", "long"] ["thing"] (defScope s_is_way) := ⟨rfl, rfl, rfl, by decide +kernel, rfl, by decide +kernel, by decide +kernel⟩
theorem fn_is_way {f : Addr} {fd : FuncData} (F : Fun K "is_way" "is_way" s_is_way f fd) (B : Bl mg) (c_is_whole : Cal P w K mg base 2 "is_whole" ["thing", "low", "high"] spIsWhole) (c_is_int : Cal P w K mg base 1 "is_int" ["thing"] spIsInt) : FnOk P w K mg base CX0 3 f fd ["thing"] (spN 1 (spIsWay K)) := by
  refine fnN F sc_is_way (fun cdv A outer s H vs Q E hr h => ?_)
  obtain ⟨v, a, b, l, rfl, W1, q⟩ := h
  refine ⟨_, (pss_cons (ps_if (PW.pt (pw_or (pt_not (pt_val (pe_callB call_isi (by rfl) B.b_isinstance (by decide +kernel) (pa_cons (pv 0) (pa_cons (pe_bltn (v := .ty "tuple") (by rfl) B.b_tuple (by decide +kernel) rfl) pa_nil))))) (pw_or1 (pt_cmpR op_neI (pe_callB call_lenK (by rfl) B.b_len (by decide +kernel) (pa_cons (pv 0) pa_nil)) pe_int (nomark _))))) (pss_one (ps_ret pe_bl)) pss_nil)
      (pss_cons (ps_asg (pv 0) (pg_tup (by rfl) (pgs_cons (pg_name (i := 1) sc_is_way.nd rfl (.inl rfl)) (pgs_cons (pg_name (i := 2) sc_is_way.nd rfl (.inl rfl)) (pgs_cons (pg_name (i := 3) sc_is_way.nd rfl (.inl rfl)) pgs_nil)))))
      (pss_cons (ps_if (PW.pt (pw_or (pt_not (pt_val (pe_cal c_is_int hr (by decide) (by rfl) (pa_cons (pv 1) pa_nil)))) (pw_or (pt_not (pt_val (pe_cal c_is_int hr (by decide) (by rfl) (pa_cons (pv 2) pa_nil)))) (pw_or1 (pt_not (pt_val (pe_cal c_is_whole hr (by decide) (by rfl) (pa_cons (pv 3) (pa_cons pe_int (pa_cons (pe_globI (by rfl) B.b_LONGEST) pa_nil)))))))))) (pss_one (ps_ret pe_bl)) pss_nil)
      (pss_one (ps_ret (pe_cmpR op_eqI (pe_op op_add (pe_op op_mulW (pv 1) (pv 1)) (pe_op op_mulW (pv 2) (pv 2))) (pe_op op_mulW (pv 3) (pv 3)) (nomark _))))))), ?_⟩
  have WB := W1.bd
  obtain ⟨p, rfl, hp, h0, h1, he⟩ := W1
  walk_at "rd"
  refine ⟨l, 1, 1000, rfl, h0, h1, ?_⟩
  walk_at "rd"
  refine q_I (mulW WB.ba WB.ba (by decide)) ?_
  walk_at "rd"
  refine q_I (mulW WB.bb WB.bb (by decide)) ?_
  walk_at "rd"
  refine q_I (mulW WB.bl WB.bl (by decide)) ?_
  walk_at "rd"
  rw [decide_eq_true he]
  exact q

abbrev s_need_way : Stmt := topS 24
theorem sc_need_way : FnScope ["thing"] ["thing"] (defScope s_need_way) := ⟨rfl, rfl, rfl, by decide +kernel, rfl, by decide +kernel, by decide +kernel⟩
theorem fn_need_way {f : Addr} {fd : FuncData} (F : Fun K "need_way" "need_way" s_need_way f fd) (B : Bl mg) (c_is_way : Cal P w K mg base 3 "is_way" ["thing"] (spIsWay K)) : FnOk P w K mg base CX0 4 f fd ["thing"] (spN 1 (spNeedWay K)) := by
  refine fnN F sc_need_way (fun cdv A outer s H vs Q E hr h => ?_)
  obtain ⟨v, a, b, l, rfl, W1, q⟩ := h
  refine ⟨_, (pss_one (ps_if (pt_not (pt_val (pe_cal c_is_way hr (by decide) (by rfl) (pa_cons (pv 0) pa_nil)))) (pss_one ps_never) pss_nil)), ?_⟩
  walk_at "rd"
  refine ⟨v, a, b, l, rfl, W1, ?_⟩
  walk_at "rd"
  exact q

abbrev s_slide : Stmt := topS 25
theorem sc_slide : FnScope ["place", "by", "way", "x", "y", "a", "b", "long", "east", "north"] ["place", "by", "way"] (defScope s_slide) := ⟨rfl, rfl, rfl, by decide +kernel, rfl, by decide +kernel, by decide +kernel⟩
theorem fn_slide {f : Addr} {fd : FuncData} (F : FunD K "slide" "slide" (defArgs s_slide) (defBody s_slide) (defScope s_slide) [] [("way", V.ref a_EAST)] f fd) (B : Bl mg) (cq_plus : Cal P w K mg base 4 "plus" ["one", "other"] (sp2Q (· + ·))) (cq_over : Cal P w K mg base 4 "over" ["one", "other"] spOverQ) (cq_times : Cal P w K mg base 4 "times" ["one", "other"] (sp2Q (· * ·))) (c_need_way : Cal P w K mg base 4 "need_way" ["thing"] (spNeedWay K)) (cq_need_number : Cal P w K mg base 3 "need_number" ["thing"] spNeedQ) (c_need_place : Cal P w K mg base 4 "need_place" ["thing"] (spNeedPl K)) : FnOk P w K mg base CX0 5 f fd ["place", "by", "way"] (spN 3 (spSlide K)) := by
  refine fnD F sc_slide (fun cdv A outer s H vs Q E hr h => ?_)
  obtain ⟨v, u, w, x, y, t, a, b, l, rfl, P1, N1, W1, B1, B2, B3, q⟩ := h
  refine ⟨_, (pss_cons (ps_expr (pe_cal c_need_place hr (by decide) (by rfl) (pa_cons (pv 0) pa_nil)))
      (pss_cons (ps_expr (pe_cal cq_need_number hr (by decide) (by rfl) (pa_cons (pv 1) pa_nil)))
      (pss_cons (ps_expr (pe_cal c_need_way hr (by decide) (by rfl) (pa_cons (pv 2) pa_nil)))
      (pss_cons (ps_asg (pv 0) (pg_tup (by rfl) (pgs_cons (pg_name (i := 3) sc_slide.nd rfl (.inl rfl)) (pgs_cons (pg_name (i := 4) sc_slide.nd rfl (.inl rfl)) pgs_nil))))
      (pss_cons (ps_asg (pv 2) (pg_tup (by rfl) (pgs_cons (pg_name (i := 5) sc_slide.nd rfl (.inl rfl)) (pgs_cons (pg_name (i := 6) sc_slide.nd rfl (.inl rfl)) (pgs_cons (pg_name (i := 7) sc_slide.nd rfl (.inl rfl)) pgs_nil)))))
      (pss_cons (ps_set (i := 8) sc_slide.nd rfl (.inl rfl) (pe_cal cq_over hr (by decide) (by rfl) (pa_cons (pe_cal cq_times hr (by decide) (by rfl) (pa_cons (pv 1) (pa_cons (pv 5) pa_nil))) (pa_cons (pv 7) pa_nil))))
      (pss_cons (ps_set (i := 9) sc_slide.nd rfl (.inl rfl) (pe_cal cq_over hr (by decide) (by rfl) (pa_cons (pe_cal cq_times hr (by decide) (by rfl) (pa_cons (pv 1) (pa_cons (pv 6) pa_nil))) (pa_cons (pv 7) pa_nil))))
      (pss_one (ps_ret (pe_tup (pa_cons (pe_cal cq_plus hr (by decide) (by rfl) (pa_cons (pv 3) (pa_cons (pv 8) pa_nil))) (pa_cons (pe_cal cq_plus hr (by decide) (by rfl) (pa_cons (pv 4) (pa_cons (pv 9) pa_nil))) pa_nil)))))))))))), ?_⟩
  walk_at "rd"
  refine ⟨v, x, y, rfl, P1, fun H1 S1 => ?_⟩
  walk_at "rd"
  refine ⟨u, t, rfl, N1.same S1, ?_⟩
  walk_at "rd"
  refine ⟨w, a, b, l, rfl, W1.same S1, ?_⟩
  walk_at "rd"
  have WB := W1.bd
  have l0 : ((l : Int) : Rat) ≠ 0 := int_ne WB.l0
  obtain ⟨p, vx, vy, rfl, hp, Nx, Ny⟩ := P1.same S1
  walk_at "rd"
  obtain ⟨pw, rfl, hw, _, _, _⟩ := W1.same S1
  walk_at "rd"
  have Bt1 : BQ 620 (t * (a : Rat)) := (B3.mul (BQ.int WB.ba (by decide))).mono (by decide)
  have Bt2 : BQ 620 (t * (b : Rat)) := (B3.mul (BQ.int WB.bb (by decide))).mono (by decide)
  have Bl := BQ.int WB.bl (by decide)
  refine ⟨u, _, t, _, rfl, N1.same S1, NQ.int, B3.mono (by decide), (BQ.int WB.ba (by decide)).mono (by decide), fun v1 H2 S2 M1 => ?_⟩
  walk_at "rd"
  refine ⟨v1, _, _, _, rfl, M1, NQ.int, l0, Bt1.mono (by decide), Bl.mono (by decide), fun v2 H3 S3 M2 => ?_⟩
  walk_at "rd"
  refine ⟨u, _, t, _, rfl, ((N1.same S1).same S2).same S3, NQ.int, B3.mono (by decide), (BQ.int WB.bb (by decide)).mono (by decide), fun v3 H4 S4 M3 => ?_⟩
  walk_at "rd"
  refine ⟨v3, _, _, _, rfl, M3, NQ.int, l0, Bt2.mono (by decide), Bl.mono (by decide), fun v4 H5 S5 M4 => ?_⟩
  walk_at "rd"
  have S25 := ((S2.trans S3).trans S4).trans S5
  refine ⟨vx, v2, x, _, rfl, Nx.same S25, M2.same (S4.trans S5), B1.mono (by decide), (Bt1.div Bl l0).mono (by decide), fun v5 H6 S6 M5 => ?_⟩
  walk_at "rd"
  refine ⟨vy, v4, y, _, rfl, Ny.same (S25.trans S6), M4.same S6, B2.mono (by decide), (Bt2.div Bl l0).mono (by decide), fun v6 H7 S7 M6 => ?_⟩
  walk_at "rd"
  intro p9 np9
  refine q p9 _ (((S1.trans S25).trans S6).trans (S7.trans (Same.up np9))) ⟨p9, v5, v6, rfl, SqT.of upd_same, (M5.same S7).same (Same.up np9), M6.same (Same.up np9)⟩

abbrev s_moved : Stmt := topS 26
theorem sc_moved : FnScope ["place", "by", "move", "along", "gain", "far"] ["place", "by", "move", "along"] (defScope s_moved) := ⟨rfl, rfl, rfl, by decide +kernel, rfl, by decide +kernel, by decide +kernel⟩
theorem fn_moved {f : Addr} {fd : FuncData} (F : FunD K "moved" "moved" (defArgs s_moved) (defBody s_moved) (defScope s_moved) [] [("move", V.ref a_EAST), ("along", V.ref a_EAST)] f fd) (B : Bl mg) {C_NoWay fI_NoWay : Addr} (e_NoWay : ErrC K mg "NoWay" C_NoWay fI_NoWay) {fd_NoWay : FuncData} (n_NoWay : FnOk P w K mg base CX0 1 fI_NoWay fd_NoWay ["self", "found"] (spN 2 (spErr C_NoWay))) (b_NoWay : Binds K fd_NoWay ["self", "found"] []) (cq_over : Cal P w K mg base 4 "over" ["one", "other"] spOverQ) (cq_times : Cal P w K mg base 4 "times" ["one", "other"] (sp2Q (· * ·))) (c_need_way : Cal P w K mg base 4 "need_way" ["thing"] (spNeedWay K)) (cq_need_number : Cal P w K mg base 3 "need_number" ["thing"] spNeedQ) (c_need_place : Cal P w K mg base 4 "need_place" ["thing"] (spNeedPl K)) (ck_slide_2_way : CalK P w K mg base 5 "slide" ["place", "by", "way"] (spSlide K) 2 ["way"] [] [0, 1, 2]) : FnOk P w K mg base (L2.CX P w) 6 f fd ["place", "by", "move", "along"] (spN 4 (spMoved K C_NoWay)) := by
  refine fnDX F sc_moved (fun cdv A outer s H vs Q E hr h => ?_)
  obtain ⟨v, u, w', z, x, y, t, a, b, l, c, d, m, rfl, P1, N1, W1, W2, B1, B2, B3, qn, qz⟩ := h
  refine ⟨_, (pss_cons (ps_expr (pe_cal c_need_place hr (by decide) (by rfl) (pa_cons (pv 0) pa_nil)))
      (pss_cons (ps_expr (pe_cal cq_need_number hr (by decide) (by rfl) (pa_cons (pv 1) pa_nil)))
      (pss_cons (ps_expr (pe_cal c_need_way hr (by decide) (by rfl) (pa_cons (pv 2) pa_nil)))
      (pss_cons (ps_expr (pe_cal c_need_way hr (by decide) (by rfl) (pa_cons (pv 3) pa_nil)))
      (pss_cons (ps_set (i := 4) sc_moved.nd rfl (.inl rfl) (pe_op op_add (pe_op op_mulW (pe_ix ix_tup (pv 2) pe_int (fun _ _ => rfl)) (pe_ix ix_tup (pv 3) pe_int (fun _ _ => rfl))) (pe_op op_mulW (pe_ix ix_tup (pv 2) pe_int (fun _ _ => rfl)) (pe_ix ix_tup (pv 3) pe_int (fun _ _ => rfl)))))
      (pss_cons (ps_if (pt_cmpR op_eqI (pv 4) pe_int (nomark _)) (pss_one (ps_raise rfl (takes_of rfl rfl rfl rfl) (pmk_oex e_NoWay.ox e_NoWay.iC e_NoWay.tI n_NoWay (hr.mono (by decide)) b_NoWay .nil pass0 (by rfl) e_NoWay.gm (pa_cons (pe_tup (pa_cons (pv 2) (pa_cons (pv 3) pa_nil))) pa_nil)))) pss_nil)
      (pss_cons (ps_set (i := 5) sc_moved.nd rfl (.inl rfl) (pe_cal cq_over hr (by decide) (by rfl) (pa_cons (pe_cal cq_times hr (by decide) (by rfl) (pa_cons (pv 1) (pa_cons (pe_op op_mulW (pe_ix ix_tup (pv 2) pe_int (fun _ _ => rfl)) (pe_ix ix_tup (pv 3) pe_int (fun _ _ => rfl))) pa_nil))) (pa_cons (pv 4) pa_nil))))
      (pss_one (ps_ret (pe_calK ck_slide_2_way hr (by decide) (by rfl) (pa_cons (pv 0) (pa_cons (pv 5) pa_nil)) (pk_cons (pv 2) pk_nil))))))))))), ?_⟩
  walk_at "rd"
  refine ⟨v, x, y, rfl, P1, fun H1 S1 => ?_⟩
  walk_at "rd"
  refine ⟨u, t, rfl, N1.same S1, ?_⟩
  walk_at "rd"
  refine ⟨w', a, b, l, rfl, W1.same S1, ?_⟩
  walk_at "rd"
  refine ⟨z, c, d, m, rfl, W2.same S1, ?_⟩
  have WB := W1.bd
  have WC := W2.bd
  have W1' := W1.same S1
  have W2' := W2.same S1
  obtain ⟨pw, rfl, hw, _, _, _⟩ := W1.same S1
  obtain ⟨pz, rfl, hz, _, _, _⟩ := W2.same S1
  walk_at "rd"
  refine q_I (mulW WB.ba WC.ba (by decide)) ?_
  walk_at "rd"
  refine q_I (mulW WB.bb WC.bb (by decide)) ?_
  walk_at "rd"
  refine q_dec (fun e => ?_) (fun e => ?_)
  · walk_at "rd"
    refine q_mkO ?_
    walk_at "rd"
    intro p np
    walk_at "rd"
    refine q_mk (v := .ref p) fun d' H2 S2 nd hd => ?_
    refine qz e d' p H2 (S1.trans ((Same.up np).trans S2)) ?_ (S2 _ _ upd_same) hd
    exact S1.free ((Same.up np).free nd)
  · walk_at "rd"
    have lm0 : Bt 22 (l * m) := WB.bl.mul WC.bl
    refine q_I (mulW WB.bl WC.bl (by decide)) ?_
    walk_at "rd"
    refine ⟨u, _, t, _, rfl, N1.same S1, NQ.int, B3.mono (by decide), (BQ.int lm0 (by decide)).mono (by decide), fun v1 H2 S2 M1 => ?_⟩
    walk_at "rd"
    have Bg : Bt 23 (a * c + b * d) := (WB.ba.mul WC.ba).add2 (WB.bb.mul WC.bb)
    have g0 : ((a * c + b * d : Int) : Rat) ≠ 0 := int_ne e
    have Btl := B3.mul (BQ.int lm0 (by decide))
    refine ⟨v1, _, _, _, rfl, M1, NQ.int, g0, Btl.mono (by decide), (BQ.int Bg (by decide)).mono (by decide), fun v2 H3 S3 M2 => ?_⟩
    walk_at "rd"
    have S23 := S2.trans S3
    have Bf := Btl.div (BQ.int Bg (by decide)) g0
    refine ⟨v, v2, .ref pw, x, y, _, a, b, l, rfl, (P1.same S1).same S23, M2, W1'.same S23, B1.mono (by decide), B2.mono (by decide), Bf.mono (by decide), fun p H4 S4 P4 => ?_⟩
    exact qn e p H4 ((S1.trans S23).trans S4) P4

abbrev s__law_cell : Stmt := topS 28
theorem sc__law_cell : FnScope ["_law_script", "_law_k"] ["_law_script", "_law_k"] (defScope s__law_cell) := ⟨rfl, rfl, rfl, by decide +kernel, rfl, by decide +kernel, by decide +kernel⟩
theorem fn__law_cell {f : Addr} {fd : FuncData} (F : Fun K "_law_cell" "_law_cell" s__law_cell f fd) (B : Bl mg)  : FnOk P w K mg base CX0 1 f fd ["_law_script", "_law_k"] (spN 2 (spCell K)) := by
  refine fnN F sc__law_cell (fun cdv A outer s H vs Q E hr h => ?_)
  obtain ⟨a, ns, k, rfl, hS, hk, q⟩ := h
  refine ⟨_, (pss_cons (ps_if (pt_cmpR op_lt (pv 1) (pe_callB call_lenK (by rfl) B.b_len (by decide +kernel) (pa_cons (pv 0) pa_nil)) (nomark _)) (pss_one (ps_ret (pe_ix ix_list (pv 0) (pv 1) (fun _ _ => rfl)))) pss_nil)
      (pss_one (ps_ret (pe_op op_add (pe_op op_mulW pe_int (pv 1)) pe_int)))), ?_⟩
  walk_at "rd"
  refine q_lenL hS ?_
  walk_at "rd"
  refine q_dec (fun e => ?_) (fun e => ?_)
  · have hk2 : k < ns.length := by
      rw [List.length_map] at e
      omega
    walk_at "rd"
    refine q_ixL hS (v := .int ns[k]) ?_ ?_
    · rw [List.getElem?_map, List.getElem?_eq_getElem hk2]
      rfl
    · exact q _
  · walk_at "rd"
    refine q_I (mulW (Bt.small (by decide) (by decide)) (Bt.small (by omega) (by omega)) (by decide)) ?_
    walk_at "rd"
    exact q _

abbrev s__law_box : Stmt := topS 29
theorem sc__law_box : FnScope ["_law_cell_here"] ["_law_cell_here"] (defScope s__law_box) := ⟨rfl, rfl, rfl, by decide +kernel, rfl, by decide +kernel, by decide +kernel⟩
theorem fn__law_box {f : Addr} {fd : FuncData} (F : Fun K "_law_box" "_law_box" s__law_box f fd) (B : Bl mg)  : FnOk P w K mg base CX0 1 f fd ["_law_cell_here"] (spN 1 spBox) := by
  refine fnN F sc__law_box (fun cdv A outer s H vs Q E hr h => ?_)
  obtain ⟨x, rfl, q⟩ := h
  refine ⟨_, (pss_one (ps_ret (pe_lst (pa_cons (pe_callB (call_maxK rfl) (by rfl) B.b_max (by decide +kernel) (pa_cons pe_int (pa_cons (pe_op op_sub (pv 0) (pe_op op_pow pe_int pe_int)) pa_nil))) (pa_cons (pe_op op_modN (pv 0) pe_int) (pa_cons pe_int pa_nil)))))), ?_⟩
  walk_at "rd"
  refine q_I ⟨by decide, by decide, by decide⟩ ?_
  walk_at "rd"
  refine q_I (by decide) ?_
  walk_at "rd"
  intro p np
  refine q p _ _ np ?_ (fmod_lo _ (by decide)) (fmod_hi _ (by decide))
  split <;> omega

abbrev s__law_take : Stmt := topS 30
theorem sc__law_take : FnScope ["_law_box_here", "_law_many", "_law_digit", "_law_number_here"] ["_law_box_here", "_law_many"] (defScope s__law_take) := ⟨rfl, rfl, rfl, by decide +kernel, rfl, by decide +kernel, by decide +kernel⟩
theorem fn__law_take {f : Addr} {fd : FuncData} (F : Fun K "_law_take" "_law_take" s__law_take f fd) (B : Bl mg)  : FnOk P w K mg base CX0 1 f fd ["_law_box_here", "_law_many"] (spN 2 spTake) := by
  refine fnN F sc__law_take (fun cdv A outer s H vs Q E hr h => ?_)
  obtain ⟨bx, m, n, rfl, BX, hm, Bm, hn, q⟩ := h
  refine ⟨_, (pss_cons (ps_if (pt_cmpR op_gt (pe_ix ix_list (pv 0) pe_int (fun _ _ => rfl)) pe_int (nomark _)) (pss_cons (ps_set (i := 2) sc__law_take.nd rfl (.inl rfl) (pe_op op_modN (pe_ix ix_list (pv 0) pe_int (fun _ _ => rfl)) (pv 1)))
      (pss_cons (ps_asg (pe_op op_fdivA (pe_ix ix_list (pv 0) pe_int (fun _ _ => rfl)) (pv 1)) (pg_sub (pv 0) pe_int set_list))
      (pss_one (ps_ret (pv 2))))) pss_nil)
      (pss_cons (ps_asg (pe_op op_add (pe_ix ix_list (pv 0) pe_int (fun _ _ => rfl)) pe_int) (pg_sub (pv 0) pe_int set_list))
      (pss_cons (ps_set (i := 3) sc__law_take.nd rfl (.inl rfl) (pe_op op_modN (pe_op op_pow (pe_op op_add (pe_op op_add (pe_ix ix_list (pv 0) pe_int (fun _ _ => rfl)) (pe_op op_mulW pe_int (pe_ix ix_list (pv 0) pe_int (fun _ _ => rfl)))) pe_int) pe_int) pe_int))
      (pss_cons (ps_set (i := 3) sc__law_take.nd rfl (.inl rfl) (pe_op op_modN (pe_op op_pow (pe_op op_add (pv 3) (pe_op op_mulW pe_int (pe_ix ix_list (pv 0) pe_int (fun _ _ => rfl)))) pe_int) pe_int))
      (pss_one (ps_ret (pe_op op_modN (pe_op op_fdivA (pv 3) pe_int) (pv 1)))))))), ?_⟩
  obtain ⟨a, b, c, hb, ha0, hb0, hb1, hc0, hc1⟩ := BX
  walk_at "rd"
  refine q_dec (fun e => ?_) (fun e => ?_)
  · walk_at "rd"
    refine q_I (by omega) ?_
    walk_at "rd"
    refine q_I (divA (by omega) Bm (by decide)) ?_
    walk_at "rd"
    refine q_set (j := 0) hb (Nat.le_of_ble_eq_true rfl) ?_
    walk_at "rd"
    exact q _ _ (fmod_lo _ hm) (fmod_hi _ hm) Go.set ⟨_, b, c, upd_same, fdiv_lo ha0 hm, hb0, hb1, hc0, by omega⟩
  · walk_at "rd"
    refine q_set (j := 2) hb (Nat.le_of_ble_eq_true rfl) ?_
    have h1 : (upd H bx (.lst (([V.int a, V.int b, V.int c]).set 2 (V.int (c + 1))))) bx = some (.lst [V.int a, V.int b, V.int (c + 1)]) := upd_same
    walk_at "rd"
    refine q_I (mulW (Bt.small (by decide) (by decide)) (Bt.small (by omega) (by omega)) (by decide)) ?_
    walk_at "rd"
    refine q_I ⟨by decide, by decide, by omega⟩ ?_
    walk_at "rd"
    refine q_I (by decide) ?_
    walk_at "rd"
    refine q_I (mulW (Bt.small (by decide) (by decide)) (Bt.small (by omega) (by omega)) (by decide)) ?_
    generalize hz : (Int.fmod _ 2147483647 : Int) = z
    have z0 : 0 ≤ z := hz ▸ fmod_lo _ (by decide)
    have z1 : z < 2147483647 := hz ▸ fmod_hi _ (by decide)
    walk_at "rd"
    refine q_I ⟨by decide, by decide, by omega⟩ ?_
    walk_at "rd"
    refine q_I (by decide) ?_
    walk_at "rd"
    refine q_I ⟨by decide, by decide⟩ ?_
    walk_at "rd"
    refine q_I (by omega) ?_
    walk_at "rd"
    exact q _ _ (fmod_lo _ hm) (fmod_hi _ hm) Go.set ⟨a, b, c + 1, upd_same, ha0, hb0, hb1, by omega, by omega⟩

abbrev s__law_far : Stmt := topS 31
theorem sc__law_far : FnScope ["_law_box_here", "_law_number_here", "_law_k"] ["_law_box_here"] (defScope s__law_far) := ⟨rfl, rfl, rfl, by decide +kernel, rfl, by decide +kernel, by decide +kernel⟩
theorem fn__law_far {f : Addr} {fd : FuncData} (F : Fun K "_law_far" "_law_far" s__law_far f fd) (B : Bl mg) (c__law_take : Cal P w K mg base 1 "_law_take" ["_law_box_here", "_law_many"] spTake) : FnOk P w K mg base CX0 2 f fd ["_law_box_here"] (spN 1 spFar) := by
  refine fnN F sc__law_far (fun cdv A outer s H vs Q E hr h => ?_)
  obtain ⟨bx, n, rfl, BX, hn, q⟩ := h
  refine ⟨_, (pss_cons (ps_set (i := 1) sc__law_far.nd rfl (.inl rfl) pe_int)
      (pss_cons (ps_for PassesOwn.never (by rfl) (pi_range1 (by rfl) B.b_range (pa_cons (pe_op op_add pe_int (pe_cal c__law_take hr (by decide) (by rfl) (pa_cons (pv 0) (pa_cons pe_int pa_nil)))) pa_nil)) (pg_name (i := 2) sc__law_far.nd rfl (.inl rfl)) (pss_one (ps_set (i := 1) sc__law_far.nd rfl (.inl rfl) (pe_op op_add (pe_op op_mulW pe_int (pv 1)) (pe_cal c__law_take hr (by decide) (by rfl) (pa_cons (pv 0) (pa_cons pe_int pa_nil)))))))
      (pss_one (ps_ret (pe_ix ix_list (pe_lst (pa_cons (pv 1) (pa_cons (pe_op op_sub pe_int (pv 1)) (pa_cons (pe_op op_sub (pe_op op_modN (pv 1) pe_int) pe_int) pa_nil)))) (pe_cal c__law_take hr (by decide) (by rfl) (pa_cons (pv 0) (pa_cons pe_int pa_nil))) (fun _ _ => rfl)))))), ?_⟩
  walk_at "rd"
  refine ⟨bx, 10, n, rfl, BX, by decide, (Bt.small (by decide) (by decide)).mono (by decide), by omega, fun d H1 d0 d1 G1 BX1 => ?_⟩
  walk_at "rd"
  refine ⟨1 + d, rfl, by omega, by omega, ?_⟩
  refine for_range (lo := 0) (n := (1 + d).toNat) (fun i σ H' => ∃ (x : Int) (y : Option V), σ = [some (.ref bx), some (.int x), y] ∧ Bt (11 * i) x ∧ Go bx H H' ∧ Box H' bx (n + 1 + i)) ⟨0, none, rfl, ⟨by decide⟩, G1, BX1.mono (by omega)⟩ ?_ ?_
  · rintro i σ H2 hi ⟨x, y, rfl, Bx, G2, BX2⟩
    walk_at "rd"
    refine q_I (mulW (Bt.small (by decide) (by decide)) Bx (by omega)) ?_
    walk_at "rd"
    refine ⟨bx, 1000, _, rfl, BX2, by decide, (Bt.small (by decide) (by decide)).mono (by decide), by omega, fun d2 H3 e0 e1 G3 BX3 => ?_⟩
    walk_at "rd"
    refine ⟨_, _, rfl, ?_, G2.trans G3, BX3.mono (by omega)⟩
    refine ⟨?_⟩
    have h1 : (x.natAbs : Int) < 2 ^ (11 * i) := by exact_mod_cast Bx.lt
    have h2 : (2 : Nat) ^ (11 * (i + 1)) = 2 ^ (11 * i) * 2048 := by
      rw [Nat.mul_add, Nat.pow_add]
    have h3 := Bx.lt
    rw [h2]
    generalize 2 ^ (11 * i) = z at h3
    omega
  · rintro σ H2 ⟨x, y, rfl, Bx, G2, BX2⟩
    have Bx2 : Bt 110 x := Bx.mono (by omega)
    walk_at "rd"
    refine q_I (by decide) ?_
    walk_at "rd"
    intro p np
    have nb : p ≠ bx := fun z => by
      obtain ⟨_, _, _, h, _⟩ := BX2
      rw [← z, np] at h
      cases h
    walk_at "rd"
    refine ⟨bx, 3, _, rfl, BX2.same (Same.up np), by decide, (Bt.small (by decide) (by decide)).mono (by decide), by omega, fun d3 H4 e0 e1 G4 BX4 => ?_⟩
    have hp := G4 p _ upd_same nb
    refine q_Lat hp e0 e1 fun v hv => ?_
    have G5 := (G2.trans (Go.of (Same.up np))).trans G4
    have hf0 := fmod_lo x (show (0 : Int) < 1000 by decide)
    have hf1 := fmod_hi x (show (0 : Int) < 1000 by decide)
    rcases List.mem_cons.mp hv with e | hv
    · subst e
      exact q _ _ Bx2 G5 (BX4.mono (by omega))
    rcases List.mem_cons.mp hv with e | hv
    · subst e
      exact q _ _ (Bt.le Bx2 (by omega)) G5 (BX4.mono (by omega))
    rcases List.mem_cons.mp hv with e | hv
    · subst e
      exact q _ _ ((Bt.small (by omega) (by omega)).mono (by decide)) G5 (BX4.mono (by omega))
    · cases hv

abbrev s__law_number : Stmt := topS 32
theorem sc__law_number : FnScope ["_law_upper", "_law_lower", "_law_left", "_law_right_here"] ["_law_upper", "_law_lower"] (defScope s__law_number) := ⟨rfl, rfl, rfl, by decide +kernel, rfl, by decide +kernel, by decide +kernel⟩
theorem fn__law_number {f : Addr} {fd : FuncData} (F : Fun K "_law_number" "_law_number" s__law_number f fd) (B : Bl mg)  : FnOk P w K mg base CX0 1 f fd ["_law_upper", "_law_lower"] (spN 2 spLow) := by
  refine fnN F sc__law_number (fun cdv A outer s H vs Q E hr h => ?_)
  obtain ⟨t, b, rfl, hb, B1, B2, q⟩ := h
  refine ⟨_, (pss_cons (ps_par (i := 2) (j := 3) (by rfl) sc__law_number.nd rfl rfl (by decide) rfl rfl (pa_cons (pe_callB call_absK (by rfl) B.b_abs (by decide +kernel) (pa_cons (pv 0) pa_nil)) (pa_cons (pe_callB call_absK (by rfl) B.b_abs (by decide +kernel) (pa_cons (pv 1) pa_nil)) pa_nil)) (by rfl))
      (pss_cons (ps_while PassesOwn.never (pt_cmpR op_neI (pv 3) pe_int (nomark _)) (pss_one (ps_par (i := 2) (j := 3) (by rfl) sc__law_number.nd rfl rfl (by decide) rfl rfl (pa_cons (pv 3) (pa_cons (pe_op op_modN (pv 2) (pv 3)) pa_nil)) (by rfl))))
      (pss_cons (ps_if (pt_cmpR op_lt (pv 1) pe_int (nomark _)) (pss_one (ps_set (i := 2) sc__law_number.nd rfl (.inl rfl) (pe_op op_sub pe_int (pv 2)))) pss_nil)
      (pss_one (ps_ret (pe_ifExp (pt_cmpR op_eqI (pe_op op_fdivA (pv 1) (pv 2)) pe_int (nomark _)) (pe_op op_fdivA (pv 0) (pv 2)) (pe_tup (pa_cons (pe_op op_fdivA (pv 0) (pv 2)) (pa_cons (pe_op op_fdivA (pv 1) (pv 2)) pa_nil))))))))), ?_⟩
  obtain ⟨t', b', C⟩ := cut_of (t := t) hb
  walk_at "rd"
  refine ⟨fun m σ H' => ∃ x y : Int, σ = [some (.int t), some (.int b), some (.int x), some (.int y)] ∧ H' = H ∧ m = y.natAbs ∧ 0 ≤ x ∧ 0 ≤ y ∧ Nat.gcd x.natAbs y.natAbs = Nat.gcd t.natAbs b.natAbs, ⟨_, _, _, rfl, rfl, rfl, by split <;> omega, by split <;> omega, by rw [abs_abs, abs_abs]⟩, ?_⟩
  rintro m σ H' ⟨x, y, rfl, rfl, rfl, hx, hy, hg⟩
  walk_at "rd"
  refine q_ndec (fun e => ?_) (fun e => ?_)
  · refine ⟨_, fun σ' H' h => h, ?_⟩
    walk_at "rd"
    refine q_I e ?_
    walk_at "rd"
    have h0 := fmod_lo x (show 0 < y by omega)
    have h1 := fmod_hi x (show 0 < y by omega)
    refine ⟨(x.fmod y).natAbs, by omega, y, x.fmod y, rfl, rfl, rfl, hy, h0, ?_⟩
    rw [← hg, fmod_abs hx hy, Nat.gcd_comm x.natAbs, Nat.gcd_rec y.natAbs x.natAbs, Nat.gcd_comm]
  · subst e
    have hx2 : x = ((Nat.gcd t.natAbs b.natAbs : Nat) : Int) := by
      rw [← hg]
      have : Nat.gcd x.natAbs (0 : Int).natAbs = x.natAbs := Nat.gcd_zero_right _
      rw [this]
      omega
    subst hx2
    walk_at "rd"
    refine q_dec (fun e0 => ?_) (fun e0 => ?_)
    · have es : gsg t b = 0 - ((Nat.gcd t.natAbs b.natAbs : Nat) : Int) := by
        unfold gsg
        rw [if_pos e0]
        omega
      rw [es] at C
      have dv := divA (i := t) C.ns (B2.le C.ss) (by decide)
      have dv2 := divA (i := b) C.ns (B2.le C.ss) (by decide)
      walk_at "rd"
      refine q_I dv2 ?_
      rw [C.fb]
      walk_at "rd"
      refine q_dec (fun e => ?_) (fun e => ?_)
      · walk_at "rd"
        refine q_I dv ?_
        rw [C.ft]
        refine q _ _ _ _ (Same.refl _) (.inl ⟨rfl, e⟩) C.low
      · walk_at "rd"
        refine q_I dv ?_
        walk_at "rd"
        refine q_I dv2 ?_
        walk_at "rd"
        intro p np
        rw [C.ft, C.fb]
        have h2 := C.p
        exact q _ _ _ _ (Same.up np) (.inr ⟨p, rfl, upd_same, by omega, C.c⟩) C.low
    · have es : gsg t b = ((Nat.gcd t.natAbs b.natAbs : Nat) : Int) := by
        unfold gsg
        rw [if_neg e0]
      rw [es] at C
      have dv := divA (i := t) C.ns (B2.le C.ss) (by decide)
      have dv2 := divA (i := b) C.ns (B2.le C.ss) (by decide)
      walk_at "rd"
      refine q_I dv2 ?_
      rw [C.fb]
      walk_at "rd"
      refine q_dec (fun e => ?_) (fun e => ?_)
      · walk_at "rd"
        refine q_I dv ?_
        rw [C.ft]
        refine q _ _ _ _ (Same.refl _) (.inl ⟨rfl, e⟩) C.low
      · walk_at "rd"
        refine q_I dv ?_
        walk_at "rd"
        refine q_I dv2 ?_
        walk_at "rd"
        intro p np
        rw [C.ft, C.fb]
        have h2 := C.p
        exact q _ _ _ _ (Same.up np) (.inr ⟨p, rfl, upd_same, by omega, C.c⟩) C.low

abbrev s__law_pair : Stmt := topS 33
theorem sc__law_pair : FnScope ["_law_number_here"] ["_law_number_here"] (defScope s__law_pair) := ⟨rfl, rfl, rfl, by decide +kernel, rfl, by decide +kernel, by decide +kernel⟩
theorem fn__law_pair {f : Addr} {fd : FuncData} (F : Fun K "_law_pair" "_law_pair" s__law_pair f fd) (B : Bl mg)  : FnOk P w K mg base CX0 1 f fd ["_law_number_here"] (spN 1 spPair) := by
  refine fnN F sc__law_pair (fun cdv A outer s H vs Q E hr h => ?_)
  obtain ⟨v, t, b, rfl, N, q⟩ := h
  refine ⟨_, (pss_one (ps_ret (pe_ifExp (pt_val (pe_callB call_isi (by rfl) B.b_isinstance (by decide +kernel) (pa_cons (pv 0) (pa_cons (pe_bltn (v := .ty "tuple") (by rfl) B.b_tuple (by decide +kernel) rfl) pa_nil)))) (pv 0) (pe_tup (pa_cons (pv 0) (pa_cons pe_int pa_nil)))))), ?_⟩
  rcases N with ⟨rfl, rfl⟩ | ⟨a, rfl, ha, hb, hc⟩
  · walk_at "rd"
    exact fun p np => q p _ (Same.up np) upd_same
  · walk_at "rd"
    exact q a H (Same.refl H) ha

abbrev s__law_is : Stmt := topS 34
theorem sc__law_is : FnScope ["_law_found", "_law_due"] ["_law_found", "_law_due"] (defScope s__law_is) := ⟨rfl, rfl, rfl, by decide +kernel, rfl, by decide +kernel, by decide +kernel⟩
theorem fn__law_is_v0 {f : Addr} {fd : FuncData} (F : Fun K "_law_is" "_law_is" s__law_is f fd) (B : Bl mg)  : FnOk P w K mg base CX0 1 f fd ["_law_found", "_law_due"] (spN 2 spIs0) := by
  refine fnN F sc__law_is (fun cdv A outer s H vs Q E hr h => ?_)
  obtain ⟨i, rfl, q⟩ := h
  refine ⟨_, (pss_cons (ps_if (pt_val (pe_callB call_isi (by rfl) B.b_isinstance (by decide +kernel) (pa_cons (pv 1) (pa_cons (pe_bltn (v := .ty "tuple") (by rfl) B.b_tuple (by decide +kernel) rfl) pa_nil)))) pss_never pss_nil)
      (pss_one (ps_ret (pe_and (pe_callB call_isi (by rfl) B.b_isinstance (by decide +kernel) (pa_cons (pv 0) (pa_cons (pe_bltn (v := .ty "int") (by rfl) B.b_int (by decide +kernel) rfl) pa_nil))) (pe_and (pe_not (pe_callB call_isi (by rfl) B.b_isinstance (by decide +kernel) (pa_cons (pv 0) (pa_cons (pe_bltn (v := .ty "bool") (by rfl) B.b_bool (by decide +kernel) rfl) pa_nil)))) (pe_one (pe_cmpR (op_eqD hr.units) (pv 0) (pv 1) (nomark _)))))))), ?_⟩
  walk_at "rd"
  exact q

theorem fn__law_is {f : Addr} {fd : FuncData} (F : Fun K "_law_is" "_law_is" s__law_is f fd) (B : Bl mg) (c__law_is_v0 : Cal P w K mg base 1 "_law_is" ["_law_found", "_law_due"] spIs0) : FnOk P w K mg base CX0 2 f fd ["_law_found", "_law_due"] (spN 2 spIs) := by
  refine fnN F sc__law_is (fun cdv A outer s H vs Q E hr h => ?_)
  obtain ⟨x, y, t, b, rfl, N1, N2, q⟩ := h
  refine ⟨_, (pss_cons (ps_if (pt_val (pe_callB call_isi (by rfl) B.b_isinstance (by decide +kernel) (pa_cons (pv 1) (pa_cons (pe_bltn (v := .ty "tuple") (by rfl) B.b_tuple (by decide +kernel) rfl) pa_nil)))) (pss_one (ps_ret (pe_and (pe_callB call_isi (by rfl) B.b_isinstance (by decide +kernel) (pa_cons (pv 0) (pa_cons (pe_bltn (v := .ty "tuple") (by rfl) B.b_tuple (by decide +kernel) rfl) pa_nil))) (pe_and (pe_cmpR (op_eqD hr.units) (pv 0) (pv 1) (nomark _)) (pe_and (pe_cal c__law_is_v0 hr (by decide) (by rfl) (pa_cons (pe_ix ix_tup (pv 0) pe_int (fun _ _ => rfl)) (pa_cons (pe_ix ix_tup (pv 1) pe_int (fun _ _ => rfl)) pa_nil))) (pe_one (pe_cal c__law_is_v0 hr (by decide) (by rfl) (pa_cons (pe_ix ix_tup (pv 0) pe_int (fun _ _ => rfl)) (pa_cons (pe_ix ix_tup (pv 1) pe_int (fun _ _ => rfl)) pa_nil))))))))) pss_nil)
      (pss_one (ps_ret (pe_and (pe_callB call_isi (by rfl) B.b_isinstance (by decide +kernel) (pa_cons (pv 0) (pa_cons (pe_bltn (v := .ty "int") (by rfl) B.b_int (by decide +kernel) rfl) pa_nil))) (pe_and (pe_not (pe_callB call_isi (by rfl) B.b_isinstance (by decide +kernel) (pa_cons (pv 0) (pa_cons (pe_bltn (v := .ty "bool") (by rfl) B.b_bool (by decide +kernel) rfl) pa_nil)))) (pe_one (pe_cmpR (op_eqD hr.units) (pv 0) (pv 1) (nomark _)))))))), ?_⟩
  rcases N1 with ⟨rfl, rfl⟩ | ⟨a, rfl, ha, hb, hc⟩
  · rcases N2 with ⟨rfl, _⟩ | ⟨_, _, _, h, _⟩
    · walk_at "rd"
      exact q H (Same.refl H)
    · exact absurd h (by decide)
  · rcases N2 with ⟨_, rfl⟩ | ⟨a2, rfl, ha2, _, _⟩
    · exact absurd hb (by decide)
    · walk_at "rd"
      refine ⟨t, rfl, ?_⟩
      walk_at "rd"
      refine ⟨b, rfl, ?_⟩
      exact q H (Same.refl H)

abbrev s__law_drawn : Stmt := topS 35
theorem sc__law_drawn : FnScope ["_law_box_here", "_law_upper", "_law_lower"] ["_law_box_here"] (defScope s__law_drawn) := ⟨rfl, rfl, rfl, by decide +kernel, rfl, by decide +kernel, by decide +kernel⟩
theorem fn__law_drawn {f : Addr} {fd : FuncData} (F : Fun K "_law_drawn" "_law_drawn" s__law_drawn f fd) (B : Bl mg) (c__law_number : Cal P w K mg base 1 "_law_number" ["_law_upper", "_law_lower"] spLow) (c__law_far : Cal P w K mg base 2 "_law_far" ["_law_box_here"] spFar) (c__law_take : Cal P w K mg base 1 "_law_take" ["_law_box_here", "_law_many"] spTake) : FnOk P w K mg base CX0 3 f fd ["_law_box_here"] (spN 1 spDrawn) := by
  refine fnN F sc__law_drawn (fun cdv A outer s H vs Q E hr h => ?_)
  obtain ⟨bx, n, rfl, BX, hn, q⟩ := h
  refine ⟨_, (pss_cons (ps_set (i := 1) sc__law_drawn.nd rfl (.inl rfl) (pe_ix ix_list (pe_lst (pa_cons (pe_op op_sub (pe_cal c__law_take hr (by decide) (by rfl) (pa_cons (pv 0) (pa_cons pe_int pa_nil))) pe_int) (pa_cons (pe_cal c__law_far hr (by decide) (by rfl) (pa_cons (pv 0) pa_nil)) pa_nil))) (pe_cal c__law_take hr (by decide) (by rfl) (pa_cons (pv 0) (pa_cons pe_int pa_nil))) (fun _ _ => rfl)))
      (pss_cons (ps_set (i := 2) sc__law_drawn.nd rfl (.inl rfl) (pe_ix ix_list (pe_lst (pa_cons pe_int (pa_cons pe_int (pa_cons (pe_op op_add pe_int (pe_cal c__law_take hr (by decide) (by rfl) (pa_cons (pv 0) (pa_cons pe_int pa_nil)))) (pa_cons (pe_op op_add pe_int (pe_callB call_absK (by rfl) B.b_abs (by decide +kernel) (pa_cons (pe_cal c__law_far hr (by decide) (by rfl) (pa_cons (pv 0) pa_nil)) pa_nil))) pa_nil))))) (pe_cal c__law_take hr (by decide) (by rfl) (pa_cons (pv 0) (pa_cons pe_int pa_nil))) (fun _ _ => rfl)))
      (pss_one (ps_ret (pe_cal c__law_number hr (by decide) (by rfl) (pa_cons (pv 1) (pa_cons (pv 2) pa_nil))))))), ?_⟩
  walk_at "rd"
  refine ⟨bx, 41, n, rfl, BX, by decide, (Bt.small (by decide) (by decide)).mono (by decide), by omega, fun d H1 d0 d1 G1 BX1 => ?_⟩
  walk_at "rd"
  refine ⟨bx, _, rfl, BX1, by omega, fun x H2 Bx G2 BX2 => ?_⟩
  walk_at "rd"
  intro p np
  have nb := BX2.fresh np
  walk_at "rd"
  refine ⟨bx, 2, _, rfl, BX2.same (Same.up np), by decide, (Bt.small (by decide) (by decide)).mono (by decide), by omega, fun d2 H3 e0 e1 G3 BX3 => ?_⟩
  have hp := G3 p _ upd_same nb
  refine q_Lat hp e0 e1 fun v hv => ?_
  have GA := ((G1.trans G2).trans (Go.of (Same.up np))).trans G3
  obtain ⟨u, rfl, Bu⟩ : ∃ u, v = .int u ∧ Bt 110 u := by
    rcases List.mem_cons.mp hv with e | hv
    · exact ⟨_, e, (Bt.small (by omega) (by omega)).mono (by decide)⟩
    rcases List.mem_cons.mp hv with e | hv
    · exact ⟨_, e, Bx⟩
    · cases hv
  clear hp hv
  walk_at "rd"
  refine ⟨bx, 12, _, rfl, BX3, by decide, (Bt.small (by decide) (by decide)).mono (by decide), by omega, fun d4 H4 g0 g1 G4 BX4 => ?_⟩
  walk_at "rd"
  refine ⟨bx, _, rfl, BX4, by omega, fun y H5 By G5 BX5 => ?_⟩
  walk_at "rd"
  intro p2 np2
  have nb2 := BX5.fresh np2
  walk_at "rd"
  refine ⟨bx, 4, _, rfl, BX5.same (Same.up np2), by decide, (Bt.small (by decide) (by decide)).mono (by decide), by omega, fun d5 H6 f0 f1 G6 BX6 => ?_⟩
  have hp := G6 p2 _ upd_same nb2
  refine q_Lat hp f0 f1 fun v hv => ?_
  have GB := (((GA.trans G4).trans G5).trans (Go.of (Same.up np2))).trans G6
  have By1 : Bt 111 (1 + if y < 0 then -y else y) := by
    have h1 := By.lt
    refine ⟨?_⟩
    rw [show (2 : Nat) ^ 111 = 2 * 2 ^ 110 from by rw [Nat.pow_succ, Nat.mul_comm]]
    generalize (2 : Nat) ^ 110 = z at h1
    split <;> omega
  obtain ⟨l, rfl, Bl, l0⟩ : ∃ l, v = .int l ∧ Bt 111 l ∧ 0 < l := by
    rcases List.mem_cons.mp hv with e | hv
    · exact ⟨_, e, (Bt.small (by decide) (by decide)).mono (by decide), by decide⟩
    rcases List.mem_cons.mp hv with e | hv
    · exact ⟨_, e, (Bt.small (by decide) (by decide)).mono (by decide), by decide⟩
    rcases List.mem_cons.mp hv with e | hv
    · exact ⟨_, e, (Bt.small (by omega) (by omega)).mono (by decide), by omega⟩
    rcases List.mem_cons.mp hv with e | hv
    · exact ⟨_, e, By1, by split <;> omega⟩
    · cases hv
  clear hp hv
  walk_at "rd"
  refine ⟨u, l, rfl, by omega, Bu.mono (by decide), Bl.mono (by decide), fun v H7 t' b' S7 N L => ?_⟩
  exact q v t' b' H7 N ((Bu.le L.nt).mono (by decide)) ((Bl.le L.nb).mono (by decide)) (GB.trans (Go.of S7)) ((BX6.same S7).mono (by omega))

abbrev s__law_sum : Stmt := topS 36
theorem sc__law_sum : FnScope ["_law_first", "_law_second", "_law_a", "_law_b", "_law_c", "_law_d"] ["_law_first", "_law_second"] (defScope s__law_sum) := ⟨rfl, rfl, rfl, by decide +kernel, rfl, by decide +kernel, by decide +kernel⟩
theorem fn__law_sum {f : Addr} {fd : FuncData} (F : Fun K "_law_sum" "_law_sum" s__law_sum f fd) (B : Bl mg) (cq__law_number : Cal P w K mg base 1 "_law_number" ["_law_upper", "_law_lower"] spLowQ) (cq__law_pair : Cal P w K mg base 1 "_law_pair" ["_law_number_here"] spPairQ) : FnOk P w K mg base CX0 2 f fd ["_law_first", "_law_second"] (spN 2 (sp2Q (· + ·))) := by
  refine fnN F sc__law_sum (fun cdv A outer s H vs Q E hr h => ?_)
  obtain ⟨x, y, a, b, rfl, N1, N2, B1, B2, q⟩ := h
  refine ⟨_, (pss_cons (ps_asg (pe_cal cq__law_pair hr (by decide) (by rfl) (pa_cons (pv 0) pa_nil)) (pg_tup (by rfl) (pgs_cons (pg_name (i := 2) sc__law_sum.nd rfl (.inl rfl)) (pgs_cons (pg_name (i := 3) sc__law_sum.nd rfl (.inl rfl)) pgs_nil))))
      (pss_cons (ps_asg (pe_cal cq__law_pair hr (by decide) (by rfl) (pa_cons (pv 1) pa_nil)) (pg_tup (by rfl) (pgs_cons (pg_name (i := 4) sc__law_sum.nd rfl (.inl rfl)) (pgs_cons (pg_name (i := 5) sc__law_sum.nd rfl (.inl rfl)) pgs_nil))))
      (pss_one (ps_ret (pe_cal cq__law_number hr (by decide) (by rfl) (pa_cons (pe_op op_add (pe_op op_mulW (pv 2) (pv 5)) (pe_op op_mulW (pv 4) (pv 3))) (pa_cons (pe_op op_mulW (pv 3) (pv 5)) pa_nil))))))), ?_⟩
  walk_at "rd"
  refine ⟨x, a, rfl, N1, fun p H1 S1 hp => ?_⟩
  walk_at "rd"
  refine ⟨y, b, rfl, N2.same S1, fun p2 H2 S2 hp2 => ?_⟩
  walk_at "rd"
  refine q_I (mulW B1.t B2.b (by decide)) ?_
  walk_at "rd"
  refine q_I (mulW B2.t B1.b (by decide)) ?_
  walk_at "rd"
  refine q_I (mulW B1.b B2.b (by decide)) ?_
  walk_at "rd"
  refine ⟨_, _, rfl, dd_ne a b, (((B1.t.mul B2.b).mono (by decide : 2000 + 2000 ≤ 4001)).add2 ((B2.t.mul B1.b).mono (by decide))).mono (by decide), (B1.b.mul B2.b).mono (by decide), fun v H3 S3 N => q v H3 ((S1.trans S2).trans S3) (N.is (q_add a b).symm)⟩

abbrev s__law_product : Stmt := topS 37
theorem sc__law_product : FnScope ["_law_first", "_law_second", "_law_a", "_law_b", "_law_c", "_law_d"] ["_law_first", "_law_second"] (defScope s__law_product) := ⟨rfl, rfl, rfl, by decide +kernel, rfl, by decide +kernel, by decide +kernel⟩
theorem fn__law_product {f : Addr} {fd : FuncData} (F : Fun K "_law_product" "_law_product" s__law_product f fd) (B : Bl mg) (cq__law_number : Cal P w K mg base 1 "_law_number" ["_law_upper", "_law_lower"] spLowQ) (cq__law_pair : Cal P w K mg base 1 "_law_pair" ["_law_number_here"] spPairQ) : FnOk P w K mg base CX0 2 f fd ["_law_first", "_law_second"] (spN 2 (sp2Q (· * ·))) := by
  refine fnN F sc__law_product (fun cdv A outer s H vs Q E hr h => ?_)
  obtain ⟨x, y, a, b, rfl, N1, N2, B1, B2, q⟩ := h
  refine ⟨_, (pss_cons (ps_asg (pe_cal cq__law_pair hr (by decide) (by rfl) (pa_cons (pv 0) pa_nil)) (pg_tup (by rfl) (pgs_cons (pg_name (i := 2) sc__law_product.nd rfl (.inl rfl)) (pgs_cons (pg_name (i := 3) sc__law_product.nd rfl (.inl rfl)) pgs_nil))))
      (pss_cons (ps_asg (pe_cal cq__law_pair hr (by decide) (by rfl) (pa_cons (pv 1) pa_nil)) (pg_tup (by rfl) (pgs_cons (pg_name (i := 4) sc__law_product.nd rfl (.inl rfl)) (pgs_cons (pg_name (i := 5) sc__law_product.nd rfl (.inl rfl)) pgs_nil))))
      (pss_one (ps_ret (pe_cal cq__law_number hr (by decide) (by rfl) (pa_cons (pe_op op_mulW (pv 2) (pv 4)) (pa_cons (pe_op op_mulW (pv 3) (pv 5)) pa_nil))))))), ?_⟩
  walk_at "rd"
  refine ⟨x, a, rfl, N1, fun p H1 S1 hp => ?_⟩
  walk_at "rd"
  refine ⟨y, b, rfl, N2.same S1, fun p2 H2 S2 hp2 => ?_⟩
  walk_at "rd"
  refine q_I (mulW B1.t B2.t (by decide)) ?_
  walk_at "rd"
  refine q_I (mulW B1.b B2.b (by decide)) ?_
  walk_at "rd"
  refine ⟨_, _, rfl, dd_ne a b, (B1.t.mul B2.t).mono (by decide), (B1.b.mul B2.b).mono (by decide), fun v H3 S3 N => q v H3 ((S1.trans S2).trans S3) (N.is (q_mul a b).symm)⟩

abbrev s__law_slope : Stmt := topS 38
theorem sc__law_slope : FnScope ["_law_box_here", "_law_turn", "_law_a", "_law_b", "_law_many", "_law_size", "_law_m", "_law_n"] ["_law_box_here"] (defScope s__law_slope) := ⟨rfl, rfl, rfl, by decide +kernel, rfl, by decide +kernel, by decide +kernel⟩
theorem fn__law_slope {f : Addr} {fd : FuncData} (F : Fun K "_law_slope" "_law_slope" s__law_slope f fd) (B : Bl mg) (c__law_take : Cal P w K mg base 1 "_law_take" ["_law_box_here", "_law_many"] spTake) : FnOk P w K mg base CX0 2 f fd ["_law_box_here"] (spN 1 (spSlope K)) := by
  refine fnN F sc__law_slope (fun cdv A outer s H vs Q E hr h => ?_)
  obtain ⟨bx, n, rfl, BX, hn, q⟩ := h
  refine ⟨_, (pss_cons (ps_set (i := 1) sc__law_slope.nd rfl (.inl rfl) (pe_cal c__law_take hr (by decide) (by rfl) (pa_cons (pv 0) (pa_cons pe_int pa_nil))))
      (pss_cons (ps_if (pt_cmpR op_eqI (pv 1) pe_int (nomark _)) (pss_cons (ps_asg (pe_ix ix_list (pe_lst (pa_cons (pe_tup (pa_cons pe_int (pa_cons pe_int pa_nil))) (pa_cons (pe_tup (pa_cons pe_int (pa_cons pe_int pa_nil))) pa_nil))) (pe_cal c__law_take hr (by decide) (by rfl) (pa_cons (pv 0) (pa_cons pe_int pa_nil))) (fun _ _ => rfl)) (pg_tup (by rfl) (pgs_cons (pg_name (i := 2) sc__law_slope.nd rfl (.inl rfl)) (pgs_cons (pg_name (i := 3) sc__law_slope.nd rfl (.inl rfl)) pgs_nil))))
      (pss_cons (ps_set (i := 4) sc__law_slope.nd rfl (.inl rfl) (pe_ix ix_list (pe_lst (pa_cons pe_int (pa_cons (pe_op op_add pe_int (pe_cal c__law_take hr (by decide) (by rfl) (pa_cons (pv 0) (pa_cons pe_int pa_nil)))) pa_nil))) (pe_cal c__law_take hr (by decide) (by rfl) (pa_cons (pv 0) (pa_cons pe_int pa_nil))) (fun _ _ => rfl)))
      (pss_one (ps_par3 (i := 2) (j := 3) (l := 5) (by rfl) sc__law_slope.nd rfl rfl rfl (by decide) (by decide) (by decide) rfl rfl rfl (pa_cons (pe_op op_mulW (pv 2) (pv 4)) (pa_cons (pe_op op_mulW (pv 3) (pv 4)) (pa_cons (pv 4) pa_nil))) (by rfl))))) (pss_cons (ps_par (i := 6) (j := 7) (by rfl) sc__law_slope.nd rfl rfl (by decide) rfl rfl (pa_cons (pe_op op_add pe_int (pe_cal c__law_take hr (by decide) (by rfl) (pa_cons (pv 0) (pa_cons pe_int pa_nil)))) (pa_cons (pe_op op_add pe_int (pe_cal c__law_take hr (by decide) (by rfl) (pa_cons (pv 0) (pa_cons pe_int pa_nil)))) pa_nil)) (by rfl))
      (pss_cons (ps_if (pt_cmpR op_eqI (pv 7) (pv 6) (nomark _)) (pss_one (ps_set (i := 7) sc__law_slope.nd rfl (.inl rfl) pe_int)) pss_nil)
      (pss_cons (ps_set (i := 5) sc__law_slope.nd rfl (.inl rfl) (pe_op op_add (pe_op op_mulW (pv 6) (pv 6)) (pe_op op_mulW (pv 7) (pv 7))))
      (pss_cons (ps_set (i := 4) sc__law_slope.nd rfl (.inl rfl) (pe_op op_add pe_int (pe_cal c__law_take hr (by decide) (by rfl) (pa_cons (pv 0) (pa_cons (pe_op op_fdivA pe_int (pv 5)) pa_nil)))))
      (pss_cons (ps_set (i := 2) sc__law_slope.nd rfl (.inl rfl) (pe_op op_mulW (pe_callB call_absK (by rfl) B.b_abs (by decide +kernel) (pa_cons (pe_op op_sub (pe_op op_mulW (pv 6) (pv 6)) (pe_op op_mulW (pv 7) (pv 7))) pa_nil)) (pv 4)))
      (pss_cons (ps_set (i := 3) sc__law_slope.nd rfl (.inl rfl) (pe_op op_mulW (pe_op op_mulW (pe_op op_mulW pe_int (pv 6)) (pv 7)) (pv 4)))
      (pss_one (ps_set (i := 5) sc__law_slope.nd rfl (.inl rfl) (pe_op op_mulW (pv 5) (pv 4)))))))))))
      (pss_cons (ps_if (pt_cmpR op_eqI (pe_cal c__law_take hr (by decide) (by rfl) (pa_cons (pv 0) (pa_cons pe_int pa_nil))) pe_int (nomark _)) (pss_one (ps_par (i := 2) (j := 3) (by rfl) sc__law_slope.nd rfl rfl (by decide) rfl rfl (pa_cons (pv 3) (pa_cons (pv 2) pa_nil)) (by rfl))) pss_nil)
      (pss_one (ps_ret (pe_tup (pa_cons (pe_op op_mulW (pv 2) (pe_ix ix_list (pe_lst (pa_cons pe_int (pa_cons (pe_op op_sub pe_int pe_int) pa_nil))) (pe_cal c__law_take hr (by decide) (by rfl) (pa_cons (pv 0) (pa_cons pe_int pa_nil))) (fun _ _ => rfl))) (pa_cons (pe_op op_mulW (pv 3) (pe_ix ix_list (pe_lst (pa_cons pe_int (pa_cons (pe_op op_sub pe_int pe_int) pa_nil))) (pe_cal c__law_take hr (by decide) (by rfl) (pa_cons (pv 0) (pa_cons pe_int pa_nil))) (fun _ _ => rfl))) (pa_cons (pv 5) pa_nil))))))))), ?_⟩
  walk_at "rd"
  refine ⟨bx, 3, _, rfl, BX, by decide, (Bt.small (by decide) (by decide)).mono (by decide), by omega, fun d1 H1 d1a d1b g1 BX1 => ?_⟩
  walk_at "rd"
  refine q_dec (fun e1 => ?_) (fun e1 => ?_)
  · walk_at "rd"
    intro p1 np1
    have nb1 := BX1.fresh np1
    have S1 := Same.up (o := .tup [.int 1, .int 0]) np1
    have hp1 : upd H1 p1 (.tup [.int 1, .int 0]) p1 = some (.tup [.int 1, .int 0]) := upd_same
    generalize upd H1 p1 (.tup [.int 1, .int 0]) = K1 at S1 hp1 ⊢
    have BK1 := BX1.same S1
    walk_at "rd"
    intro p2 np2
    have nb2 := BK1.fresh np2
    have S2 := Same.up (o := .tup [.int 0, .int 1]) np2
    have hp2 : upd K1 p2 (.tup [.int 0, .int 1]) p2 = some (.tup [.int 0, .int 1]) := upd_same
    generalize upd K1 p2 (.tup [.int 0, .int 1]) = K2 at S2 hp2 ⊢
    have BK2 := BK1.same S2
    walk_at "rd"
    intro p3 np3
    have nb3 := BK2.fresh np3
    have S3 := Same.up (o := .lst [.ref p1, .ref p2]) np3
    walk_at "rd"
    refine ⟨bx, 2, _, rfl, BK2.same S3, by decide, (Bt.small (by decide) (by decide)).mono (by decide), by omega, fun d2 H2 d2a d2b g2 BX2 => ?_⟩
    have hl := g2 _ _ upd_same nb3
    have hq1 := g2 _ _ (S3 _ _ (S2 _ _ hp1)) nb1
    have hq2 := g2 _ _ (S3 _ _ hp2) nb2
    have GB := (((g1.trans (Go.of S1)).trans (Go.of S2)).trans (Go.of S3)).trans g2
    refine q_Lat hl d2a d2b fun v hv => ?_
    obtain ⟨pv, a0, b0, rfl, hpv, ba, bb, hab⟩ : ∃ pv a0 b0, v = .ref pv ∧ H2 pv = some (.tup [.int a0, .int b0]) ∧ Bt 1 a0 ∧ Bt 1 b0 ∧ a0 * a0 + b0 * b0 = 1 := by
      rcases List.mem_cons.mp hv with e | hv
      · exact ⟨p1, _, _, e, hq1, ⟨by decide⟩, ⟨by decide⟩, by decide⟩
      rcases List.mem_cons.mp hv with e | hv
      · exact ⟨p2, _, _, e, hq2, ⟨by decide⟩, ⟨by decide⟩, by decide⟩
      · cases hv
    clear hl hq1 hq2 hv
    walk_at "rd"
    refine ⟨bx, 1000, _, rfl, BX2, by decide, (Bt.small (by decide) (by decide)).mono (by decide), by omega, fun d3 H3 d3a d3b g3 BX3 => ?_⟩
    walk_at "rd"
    intro p4 np4
    have nb4 := BX3.fresh np4
    have S4 := Same.up (o := .lst [.int 1, .int (1 + d3)]) np4
    walk_at "rd"
    refine ⟨bx, 2, _, rfl, BX3.same S4, by decide, (Bt.small (by decide) (by decide)).mono (by decide), by omega, fun d4 H4 d4a d4b g4 BXa => ?_⟩
    have hl := g4 _ _ upd_same nb4
    have GA := ((GB.trans g3).trans (Go.of S4)).trans g4
    refine q_Lat hl d4a d4b fun v hv => ?_
    obtain ⟨l, rfl, l0, l1⟩ : ∃ z, v = .int z ∧ 1 ≤ z ∧ z ≤ 1000 := by
      rcases List.mem_cons.mp hv with e | hv
      · exact ⟨_, e, by decide, by decide⟩
      rcases List.mem_cons.mp hv with e | hv
      · exact ⟨_, e, by omega, by omega⟩
      · cases hv
    clear hl hv
    walk_at "rd"
    have bl : Bt 11 l := bt11 (by omega)
    refine q_I (mulW ba bl (by decide)) ?_
    walk_at "rd"
    refine q_I (mulW bb bl (by decide)) ?_
    walk_at "rd"
    have hw : WayB (a0 * l) (b0 * l) l := wayb (by
      rw [show a0 * l * (a0 * l) + b0 * l * (b0 * l) = (a0 * a0 + b0 * b0) * (l * l) by rw [Int.add_mul]; ac_rfl, hab, Int.one_mul]) l0 l1
    generalize a0 * l = a at hw ⊢
    generalize b0 * l = b at hw ⊢
    walk_at "rd"
    refine ⟨bx, 2, _, rfl, BXa, by decide, (Bt.small (by decide) (by decide)).mono (by decide), by omega, fun dz Hz dza dzb gz BXz => ?_⟩
    have GZ := GA.trans gz
    walk_at "rd"
    refine q_dec (fun ez => ?_) (fun ez => ?_)
    · walk_at "rd"
      walk_at "rd"
      intro ps1 nps1
      have nbs1 := BXz.fresh nps1
      have Ss1 := Same.up (o := .lst [.int 1, .int (0 - 1)]) nps1
      walk_at "rd"
      refine ⟨bx, 2, _, rfl, BXz.same Ss1, by decide, (Bt.small (by decide) (by decide)).mono (by decide), by omega, fun ds1 Hs1 ds1a ds1b gs1 BXs1 => ?_⟩
      have hps1 := gs1 _ _ upd_same nbs1
      refine q_Lat hps1 ds1a ds1b fun vs1 hvs1 => ?_
      obtain ⟨s1, rfl, bs1, es1⟩ : ∃ z, vs1 = .int z ∧ Bt 1 z ∧ z * z = 1 := by
        rcases List.mem_cons.mp hvs1 with e | hvs1
        · exact ⟨_, e, (⟨by decide⟩ : Bt 1 1), by decide⟩
        rcases List.mem_cons.mp hvs1 with e | hvs1
        · exact ⟨_, e, (⟨by decide⟩ : Bt 1 (0 - 1)), by decide⟩
        · cases hvs1
      have GS1 := (GZ.trans (Go.of Ss1)).trans gs1
      clear hvs1 hps1
      walk_at "rd"
      refine q_I (mulW (hw.bb) bs1 (by decide)) ?_

      walk_at "rd"
      intro ps2 nps2
      have nbs2 := BXs1.fresh nps2
      have Ss2 := Same.up (o := .lst [.int 1, .int (0 - 1)]) nps2
      walk_at "rd"
      refine ⟨bx, 2, _, rfl, BXs1.same Ss2, by decide, (Bt.small (by decide) (by decide)).mono (by decide), by omega, fun ds2 Hs2 ds2a ds2b gs2 BXs2 => ?_⟩
      have hps2 := gs2 _ _ upd_same nbs2
      refine q_Lat hps2 ds2a ds2b fun vs2 hvs2 => ?_
      obtain ⟨s2, rfl, bs2, es2⟩ : ∃ z, vs2 = .int z ∧ Bt 1 z ∧ z * z = 1 := by
        rcases List.mem_cons.mp hvs2 with e | hvs2
        · exact ⟨_, e, (⟨by decide⟩ : Bt 1 1), by decide⟩
        rcases List.mem_cons.mp hvs2 with e | hvs2
        · exact ⟨_, e, (⟨by decide⟩ : Bt 1 (0 - 1)), by decide⟩
        · cases hvs2
      have GS2 := (GS1.trans (Go.of Ss2)).trans gs2
      clear hvs2 hps2
      walk_at "rd"
      refine q_I (mulW (hw.ba) bs2 (by decide)) ?_

      walk_at "rd"
      intro p9 np9
      have S9 := Same.up (o := .tup [.int (b * s1), .int (a * s2), .int l]) np9
      refine q (.ref p9) (b * s1) (a * s2) l _ ⟨p9, rfl, SqT.of upd_same, hw.lp, hw.l1, ?_⟩ (GS2.trans (Go.of S9)) ((BXs2.same S9).mono (by omega))
      exact sign_sq es1 es2 ((Int.add_comm _ _).trans hw.e)
    · walk_at "rd"
      walk_at "rd"
      intro ps1 nps1
      have nbs1 := BXz.fresh nps1
      have Ss1 := Same.up (o := .lst [.int 1, .int (0 - 1)]) nps1
      walk_at "rd"
      refine ⟨bx, 2, _, rfl, BXz.same Ss1, by decide, (Bt.small (by decide) (by decide)).mono (by decide), by omega, fun ds1 Hs1 ds1a ds1b gs1 BXs1 => ?_⟩
      have hps1 := gs1 _ _ upd_same nbs1
      refine q_Lat hps1 ds1a ds1b fun vs1 hvs1 => ?_
      obtain ⟨s1, rfl, bs1, es1⟩ : ∃ z, vs1 = .int z ∧ Bt 1 z ∧ z * z = 1 := by
        rcases List.mem_cons.mp hvs1 with e | hvs1
        · exact ⟨_, e, (⟨by decide⟩ : Bt 1 1), by decide⟩
        rcases List.mem_cons.mp hvs1 with e | hvs1
        · exact ⟨_, e, (⟨by decide⟩ : Bt 1 (0 - 1)), by decide⟩
        · cases hvs1
      have GS1 := (GZ.trans (Go.of Ss1)).trans gs1
      clear hvs1 hps1
      walk_at "rd"
      refine q_I (mulW (hw.ba) bs1 (by decide)) ?_

      walk_at "rd"
      intro ps2 nps2
      have nbs2 := BXs1.fresh nps2
      have Ss2 := Same.up (o := .lst [.int 1, .int (0 - 1)]) nps2
      walk_at "rd"
      refine ⟨bx, 2, _, rfl, BXs1.same Ss2, by decide, (Bt.small (by decide) (by decide)).mono (by decide), by omega, fun ds2 Hs2 ds2a ds2b gs2 BXs2 => ?_⟩
      have hps2 := gs2 _ _ upd_same nbs2
      refine q_Lat hps2 ds2a ds2b fun vs2 hvs2 => ?_
      obtain ⟨s2, rfl, bs2, es2⟩ : ∃ z, vs2 = .int z ∧ Bt 1 z ∧ z * z = 1 := by
        rcases List.mem_cons.mp hvs2 with e | hvs2
        · exact ⟨_, e, (⟨by decide⟩ : Bt 1 1), by decide⟩
        rcases List.mem_cons.mp hvs2 with e | hvs2
        · exact ⟨_, e, (⟨by decide⟩ : Bt 1 (0 - 1)), by decide⟩
        · cases hvs2
      have GS2 := (GS1.trans (Go.of Ss2)).trans gs2
      clear hvs2 hps2
      walk_at "rd"
      refine q_I (mulW (hw.bb) bs2 (by decide)) ?_

      walk_at "rd"
      intro p9 np9
      have S9 := Same.up (o := .tup [.int (a * s1), .int (b * s2), .int l]) np9
      refine q (.ref p9) (a * s1) (b * s2) l _ ⟨p9, rfl, SqT.of upd_same, hw.lp, hw.l1, ?_⟩ (GS2.trans (Go.of S9)) ((BXs2.same S9).mono (by omega))
      exact sign_sq es1 es2 hw.e
  · walk_at "rd"
    refine ⟨bx, 20, _, rfl, BX1, by decide, (Bt.small (by decide) (by decide)).mono (by decide), by omega, fun d2 H2 d2a d2b g2 BX2 => ?_⟩
    walk_at "rd"
    refine ⟨bx, 19, _, rfl, BX2, by decide, (Bt.small (by decide) (by decide)).mono (by decide), by omega, fun d3 H3 d3a d3b g3 BXm => ?_⟩
    have GM := (g1.trans g2).trans g3
    walk_at "rd"
    have m0 : 2 ≤ 2 + d2 := by omega
    have m1 : 2 + d2 ≤ 21 := by omega
    have n0 : 1 ≤ 1 + d3 := by omega
    have n1 : 1 + d3 ≤ 19 := by omega
    generalize 2 + d2 = m at m0 m1 ⊢
    generalize 1 + d3 = k at n0 n1 ⊢
    have bm : Bt 11 m := bt11 (by omega)
    have bk : Bt 11 k := bt11 (by omega)
    refine q_dec (fun e2 => ?_) (fun e2 => ?_)
    · walk_at "rd"
      walk_at "rd"
      refine q_I (mulW (bm) (bm) (by decide)) ?_
      walk_at "rd"
      refine q_I (mulW (bt11 (x := 1) (by decide)) (bt11 (x := 1) (by decide)) (by decide)) ?_
      have hsz := sq_sum m0 m1 (show (1 : Int) ≤ 1 by decide) (show (1 : Int) ≤ 19 by decide)
      have T := thou hsz.1 hsz.2
      walk_at "rd"
      refine q_I (divA (i := 1000) (j := m * m + 1 * 1) (by omega) (n := 63) (Bt.small (by omega) (by omega)) (by decide)) ?_
      walk_at "rd"
      refine ⟨bx, _, _, rfl, BXm, T.1, (Bt.small (by omega) (by omega)).mono (by decide), by omega, fun d4 H4 d4a d4b g4 BX4 => ?_⟩
      have GA := GM.trans g4
      have hk := T.2.2 d4 d4a d4b
      have bt4 : Bt 11 (1 + d4) := bt11 (by omega)
      have bmm := (bm).mul (bm)
      have bnn := (bt11 (x := 1) (by decide)).mul (bt11 (x := 1) (by decide))
      walk_at "rd"
      refine q_I (mulW (bm) (bm) (by decide)) ?_
      walk_at "rd"
      refine q_I (mulW (bt11 (x := 1) (by decide)) (bt11 (x := 1) (by decide)) (by decide)) ?_
      walk_at "rd"
      have hA : Bt 11 (if m * m - 1 * 1 < 0 then -(m * m - 1 * 1) else m * m - 1 * 1) := by
        have := sq_nn m
        have := sq_nn 1
        split <;> exact bt11 (by omega)
      refine q_I (mulW hA bt4 (by decide)) ?_
      walk_at "rd"
      refine q_I (mulW (bt11 (x := 2) (by decide)) (bm) (by decide)) ?_
      walk_at "rd"
      refine q_I (mulW ((bt11 (x := 2) (by decide)).mul (bm)) (bt11 (x := 1) (by decide)) (by decide)) ?_
      walk_at "rd"
      refine q_I (mulW (((bt11 (x := 2) (by decide)).mul (bm)).mul (bt11 (x := 1) (by decide))) bt4 (by decide)) ?_
      walk_at "rd"
      refine q_I (mulW (bt11 (x := m * m + 1 * 1) (by omega)) bt4 (by decide)) ?_
      walk_at "rd"
      have hw := wayb (pyth (m := m) (n := 1) (k := 1 + d4)) (by have := Int.mul_pos (show 0 < m * m + 1 * 1 by omega) (show 0 < 1 + d4 by omega); omega) hk
      generalize (if m * m - 1 * 1 < 0 then -(m * m - 1 * 1) else m * m - 1 * 1) * (1 + d4) = a at hw ⊢
      generalize 2 * m * 1 * (1 + d4) = b at hw ⊢
      generalize (m * m + 1 * 1) * (1 + d4) = l at hw ⊢
      have BXa := BX4

      walk_at "rd"
      refine ⟨bx, 2, _, rfl, BXa, by decide, (Bt.small (by decide) (by decide)).mono (by decide), by omega, fun dz Hz dza dzb gz BXz => ?_⟩
      have GZ := GA.trans gz
      walk_at "rd"
      refine q_dec (fun ez => ?_) (fun ez => ?_)
      · walk_at "rd"
        walk_at "rd"
        intro ps1 nps1
        have nbs1 := BXz.fresh nps1
        have Ss1 := Same.up (o := .lst [.int 1, .int (0 - 1)]) nps1
        walk_at "rd"
        refine ⟨bx, 2, _, rfl, BXz.same Ss1, by decide, (Bt.small (by decide) (by decide)).mono (by decide), by omega, fun ds1 Hs1 ds1a ds1b gs1 BXs1 => ?_⟩
        have hps1 := gs1 _ _ upd_same nbs1
        refine q_Lat hps1 ds1a ds1b fun vs1 hvs1 => ?_
        obtain ⟨s1, rfl, bs1, es1⟩ : ∃ z, vs1 = .int z ∧ Bt 1 z ∧ z * z = 1 := by
          rcases List.mem_cons.mp hvs1 with e | hvs1
          · exact ⟨_, e, (⟨by decide⟩ : Bt 1 1), by decide⟩
          rcases List.mem_cons.mp hvs1 with e | hvs1
          · exact ⟨_, e, (⟨by decide⟩ : Bt 1 (0 - 1)), by decide⟩
          · cases hvs1
        have GS1 := (GZ.trans (Go.of Ss1)).trans gs1
        clear hvs1 hps1
        walk_at "rd"
        refine q_I (mulW (hw.bb) bs1 (by decide)) ?_

        walk_at "rd"
        intro ps2 nps2
        have nbs2 := BXs1.fresh nps2
        have Ss2 := Same.up (o := .lst [.int 1, .int (0 - 1)]) nps2
        walk_at "rd"
        refine ⟨bx, 2, _, rfl, BXs1.same Ss2, by decide, (Bt.small (by decide) (by decide)).mono (by decide), by omega, fun ds2 Hs2 ds2a ds2b gs2 BXs2 => ?_⟩
        have hps2 := gs2 _ _ upd_same nbs2
        refine q_Lat hps2 ds2a ds2b fun vs2 hvs2 => ?_
        obtain ⟨s2, rfl, bs2, es2⟩ : ∃ z, vs2 = .int z ∧ Bt 1 z ∧ z * z = 1 := by
          rcases List.mem_cons.mp hvs2 with e | hvs2
          · exact ⟨_, e, (⟨by decide⟩ : Bt 1 1), by decide⟩
          rcases List.mem_cons.mp hvs2 with e | hvs2
          · exact ⟨_, e, (⟨by decide⟩ : Bt 1 (0 - 1)), by decide⟩
          · cases hvs2
        have GS2 := (GS1.trans (Go.of Ss2)).trans gs2
        clear hvs2 hps2
        walk_at "rd"
        refine q_I (mulW (hw.ba) bs2 (by decide)) ?_

        walk_at "rd"
        intro p9 np9
        have S9 := Same.up (o := .tup [.int (b * s1), .int (a * s2), .int l]) np9
        refine q (.ref p9) (b * s1) (a * s2) l _ ⟨p9, rfl, SqT.of upd_same, hw.lp, hw.l1, ?_⟩ (GS2.trans (Go.of S9)) ((BXs2.same S9).mono (by omega))
        exact sign_sq es1 es2 ((Int.add_comm _ _).trans hw.e)
      · walk_at "rd"
        walk_at "rd"
        intro ps1 nps1
        have nbs1 := BXz.fresh nps1
        have Ss1 := Same.up (o := .lst [.int 1, .int (0 - 1)]) nps1
        walk_at "rd"
        refine ⟨bx, 2, _, rfl, BXz.same Ss1, by decide, (Bt.small (by decide) (by decide)).mono (by decide), by omega, fun ds1 Hs1 ds1a ds1b gs1 BXs1 => ?_⟩
        have hps1 := gs1 _ _ upd_same nbs1
        refine q_Lat hps1 ds1a ds1b fun vs1 hvs1 => ?_
        obtain ⟨s1, rfl, bs1, es1⟩ : ∃ z, vs1 = .int z ∧ Bt 1 z ∧ z * z = 1 := by
          rcases List.mem_cons.mp hvs1 with e | hvs1
          · exact ⟨_, e, (⟨by decide⟩ : Bt 1 1), by decide⟩
          rcases List.mem_cons.mp hvs1 with e | hvs1
          · exact ⟨_, e, (⟨by decide⟩ : Bt 1 (0 - 1)), by decide⟩
          · cases hvs1
        have GS1 := (GZ.trans (Go.of Ss1)).trans gs1
        clear hvs1 hps1
        walk_at "rd"
        refine q_I (mulW (hw.ba) bs1 (by decide)) ?_

        walk_at "rd"
        intro ps2 nps2
        have nbs2 := BXs1.fresh nps2
        have Ss2 := Same.up (o := .lst [.int 1, .int (0 - 1)]) nps2
        walk_at "rd"
        refine ⟨bx, 2, _, rfl, BXs1.same Ss2, by decide, (Bt.small (by decide) (by decide)).mono (by decide), by omega, fun ds2 Hs2 ds2a ds2b gs2 BXs2 => ?_⟩
        have hps2 := gs2 _ _ upd_same nbs2
        refine q_Lat hps2 ds2a ds2b fun vs2 hvs2 => ?_
        obtain ⟨s2, rfl, bs2, es2⟩ : ∃ z, vs2 = .int z ∧ Bt 1 z ∧ z * z = 1 := by
          rcases List.mem_cons.mp hvs2 with e | hvs2
          · exact ⟨_, e, (⟨by decide⟩ : Bt 1 1), by decide⟩
          rcases List.mem_cons.mp hvs2 with e | hvs2
          · exact ⟨_, e, (⟨by decide⟩ : Bt 1 (0 - 1)), by decide⟩
          · cases hvs2
        have GS2 := (GS1.trans (Go.of Ss2)).trans gs2
        clear hvs2 hps2
        walk_at "rd"
        refine q_I (mulW (hw.bb) bs2 (by decide)) ?_

        walk_at "rd"
        intro p9 np9
        have S9 := Same.up (o := .tup [.int (a * s1), .int (b * s2), .int l]) np9
        refine q (.ref p9) (a * s1) (b * s2) l _ ⟨p9, rfl, SqT.of upd_same, hw.lp, hw.l1, ?_⟩ (GS2.trans (Go.of S9)) ((BXs2.same S9).mono (by omega))
        exact sign_sq es1 es2 hw.e
    · walk_at "rd"
      walk_at "rd"
      refine q_I (mulW (bm) (bm) (by decide)) ?_
      walk_at "rd"
      refine q_I (mulW (bk) (bk) (by decide)) ?_
      have hsz := sq_sum m0 m1 n0 n1
      have T := thou hsz.1 hsz.2
      walk_at "rd"
      refine q_I (divA (i := 1000) (j := m * m + k * k) (by omega) (n := 63) (Bt.small (by omega) (by omega)) (by decide)) ?_
      walk_at "rd"
      refine ⟨bx, _, _, rfl, BXm, T.1, (Bt.small (by omega) (by omega)).mono (by decide), by omega, fun d4 H4 d4a d4b g4 BX4 => ?_⟩
      have GA := GM.trans g4
      have hk := T.2.2 d4 d4a d4b
      have bt4 : Bt 11 (1 + d4) := bt11 (by omega)
      have bmm := (bm).mul (bm)
      have bnn := (bk).mul (bk)
      walk_at "rd"
      refine q_I (mulW (bm) (bm) (by decide)) ?_
      walk_at "rd"
      refine q_I (mulW (bk) (bk) (by decide)) ?_
      walk_at "rd"
      have hA : Bt 11 (if m * m - k * k < 0 then -(m * m - k * k) else m * m - k * k) := by
        have := sq_nn m
        have := sq_nn k
        split <;> exact bt11 (by omega)
      refine q_I (mulW hA bt4 (by decide)) ?_
      walk_at "rd"
      refine q_I (mulW (bt11 (x := 2) (by decide)) (bm) (by decide)) ?_
      walk_at "rd"
      refine q_I (mulW ((bt11 (x := 2) (by decide)).mul (bm)) (bk) (by decide)) ?_
      walk_at "rd"
      refine q_I (mulW (((bt11 (x := 2) (by decide)).mul (bm)).mul (bk)) bt4 (by decide)) ?_
      walk_at "rd"
      refine q_I (mulW (bt11 (x := m * m + k * k) (by omega)) bt4 (by decide)) ?_
      walk_at "rd"
      have hw := wayb (pyth (m := m) (n := k) (k := 1 + d4)) (by have := Int.mul_pos (show 0 < m * m + k * k by omega) (show 0 < 1 + d4 by omega); omega) hk
      generalize (if m * m - k * k < 0 then -(m * m - k * k) else m * m - k * k) * (1 + d4) = a at hw ⊢
      generalize 2 * m * k * (1 + d4) = b at hw ⊢
      generalize (m * m + k * k) * (1 + d4) = l at hw ⊢
      have BXa := BX4

      walk_at "rd"
      refine ⟨bx, 2, _, rfl, BXa, by decide, (Bt.small (by decide) (by decide)).mono (by decide), by omega, fun dz Hz dza dzb gz BXz => ?_⟩
      have GZ := GA.trans gz
      walk_at "rd"
      refine q_dec (fun ez => ?_) (fun ez => ?_)
      · walk_at "rd"
        walk_at "rd"
        intro ps1 nps1
        have nbs1 := BXz.fresh nps1
        have Ss1 := Same.up (o := .lst [.int 1, .int (0 - 1)]) nps1
        walk_at "rd"
        refine ⟨bx, 2, _, rfl, BXz.same Ss1, by decide, (Bt.small (by decide) (by decide)).mono (by decide), by omega, fun ds1 Hs1 ds1a ds1b gs1 BXs1 => ?_⟩
        have hps1 := gs1 _ _ upd_same nbs1
        refine q_Lat hps1 ds1a ds1b fun vs1 hvs1 => ?_
        obtain ⟨s1, rfl, bs1, es1⟩ : ∃ z, vs1 = .int z ∧ Bt 1 z ∧ z * z = 1 := by
          rcases List.mem_cons.mp hvs1 with e | hvs1
          · exact ⟨_, e, (⟨by decide⟩ : Bt 1 1), by decide⟩
          rcases List.mem_cons.mp hvs1 with e | hvs1
          · exact ⟨_, e, (⟨by decide⟩ : Bt 1 (0 - 1)), by decide⟩
          · cases hvs1
        have GS1 := (GZ.trans (Go.of Ss1)).trans gs1
        clear hvs1 hps1
        walk_at "rd"
        refine q_I (mulW (hw.bb) bs1 (by decide)) ?_

        walk_at "rd"
        intro ps2 nps2
        have nbs2 := BXs1.fresh nps2
        have Ss2 := Same.up (o := .lst [.int 1, .int (0 - 1)]) nps2
        walk_at "rd"
        refine ⟨bx, 2, _, rfl, BXs1.same Ss2, by decide, (Bt.small (by decide) (by decide)).mono (by decide), by omega, fun ds2 Hs2 ds2a ds2b gs2 BXs2 => ?_⟩
        have hps2 := gs2 _ _ upd_same nbs2
        refine q_Lat hps2 ds2a ds2b fun vs2 hvs2 => ?_
        obtain ⟨s2, rfl, bs2, es2⟩ : ∃ z, vs2 = .int z ∧ Bt 1 z ∧ z * z = 1 := by
          rcases List.mem_cons.mp hvs2 with e | hvs2
          · exact ⟨_, e, (⟨by decide⟩ : Bt 1 1), by decide⟩
          rcases List.mem_cons.mp hvs2 with e | hvs2
          · exact ⟨_, e, (⟨by decide⟩ : Bt 1 (0 - 1)), by decide⟩
          · cases hvs2
        have GS2 := (GS1.trans (Go.of Ss2)).trans gs2
        clear hvs2 hps2
        walk_at "rd"
        refine q_I (mulW (hw.ba) bs2 (by decide)) ?_

        walk_at "rd"
        intro p9 np9
        have S9 := Same.up (o := .tup [.int (b * s1), .int (a * s2), .int l]) np9
        refine q (.ref p9) (b * s1) (a * s2) l _ ⟨p9, rfl, SqT.of upd_same, hw.lp, hw.l1, ?_⟩ (GS2.trans (Go.of S9)) ((BXs2.same S9).mono (by omega))
        exact sign_sq es1 es2 ((Int.add_comm _ _).trans hw.e)
      · walk_at "rd"
        walk_at "rd"
        intro ps1 nps1
        have nbs1 := BXz.fresh nps1
        have Ss1 := Same.up (o := .lst [.int 1, .int (0 - 1)]) nps1
        walk_at "rd"
        refine ⟨bx, 2, _, rfl, BXz.same Ss1, by decide, (Bt.small (by decide) (by decide)).mono (by decide), by omega, fun ds1 Hs1 ds1a ds1b gs1 BXs1 => ?_⟩
        have hps1 := gs1 _ _ upd_same nbs1
        refine q_Lat hps1 ds1a ds1b fun vs1 hvs1 => ?_
        obtain ⟨s1, rfl, bs1, es1⟩ : ∃ z, vs1 = .int z ∧ Bt 1 z ∧ z * z = 1 := by
          rcases List.mem_cons.mp hvs1 with e | hvs1
          · exact ⟨_, e, (⟨by decide⟩ : Bt 1 1), by decide⟩
          rcases List.mem_cons.mp hvs1 with e | hvs1
          · exact ⟨_, e, (⟨by decide⟩ : Bt 1 (0 - 1)), by decide⟩
          · cases hvs1
        have GS1 := (GZ.trans (Go.of Ss1)).trans gs1
        clear hvs1 hps1
        walk_at "rd"
        refine q_I (mulW (hw.ba) bs1 (by decide)) ?_

        walk_at "rd"
        intro ps2 nps2
        have nbs2 := BXs1.fresh nps2
        have Ss2 := Same.up (o := .lst [.int 1, .int (0 - 1)]) nps2
        walk_at "rd"
        refine ⟨bx, 2, _, rfl, BXs1.same Ss2, by decide, (Bt.small (by decide) (by decide)).mono (by decide), by omega, fun ds2 Hs2 ds2a ds2b gs2 BXs2 => ?_⟩
        have hps2 := gs2 _ _ upd_same nbs2
        refine q_Lat hps2 ds2a ds2b fun vs2 hvs2 => ?_
        obtain ⟨s2, rfl, bs2, es2⟩ : ∃ z, vs2 = .int z ∧ Bt 1 z ∧ z * z = 1 := by
          rcases List.mem_cons.mp hvs2 with e | hvs2
          · exact ⟨_, e, (⟨by decide⟩ : Bt 1 1), by decide⟩
          rcases List.mem_cons.mp hvs2 with e | hvs2
          · exact ⟨_, e, (⟨by decide⟩ : Bt 1 (0 - 1)), by decide⟩
          · cases hvs2
        have GS2 := (GS1.trans (Go.of Ss2)).trans gs2
        clear hvs2 hps2
        walk_at "rd"
        refine q_I (mulW (hw.bb) bs2 (by decide)) ?_

        walk_at "rd"
        intro p9 np9
        have S9 := Same.up (o := .tup [.int (a * s1), .int (b * s2), .int l]) np9
        refine q (.ref p9) (a * s1) (b * s2) l _ ⟨p9, rfl, SqT.of upd_same, hw.lp, hw.l1, ?_⟩ (GS2.trans (Go.of S9)) ((BXs2.same S9).mono (by omega))
        exact sign_sq es1 es2 hw.e

abbrev s__law_measure : Stmt := topS 39
theorem sc__law_measure : FnScope ["_law_place", "_law_slope_here", "_law_far_here"] ["_law_place", "_law_slope_here"] (defScope s__law_measure) := ⟨rfl, rfl, rfl, by decide +kernel, rfl, by decide +kernel, by decide +kernel⟩
theorem fn__law_measure {f : Addr} {fd : FuncData} (F : Fun K "_law_measure" "_law_measure" s__law_measure f fd) (B : Bl mg) (c__law_product : Cal P w K mg base 2 "_law_product" ["_law_first", "_law_second"] (sp2Q (· * ·))) (c__law_sum : Cal P w K mg base 2 "_law_sum" ["_law_first", "_law_second"] (sp2Q (· + ·))) : FnOk P w K mg base CX0 3 f fd ["_law_place", "_law_slope_here"] (spN 2 (spMeasL K)) := by
  refine fnN F sc__law_measure (fun cdv A outer s H vs Q E hr h => ?_)
  obtain ⟨v, w', x, y, a, b, l, rfl, P1, W1, B1, B2, q⟩ := h
  refine ⟨_, (pss_cons (ps_set (i := 2) sc__law_measure.nd rfl (.inl rfl) (pe_cal c__law_sum hr (by decide) (by rfl) (pa_cons (pe_cal c__law_product hr (by decide) (by rfl) (pa_cons (pe_ix ix_tup (pv 0) pe_int (fun _ _ => rfl)) (pa_cons (pe_ix ix_tup (pv 1) pe_int (fun _ _ => rfl)) pa_nil))) (pa_cons (pe_cal c__law_product hr (by decide) (by rfl) (pa_cons (pe_ix ix_tup (pv 0) pe_int (fun _ _ => rfl)) (pa_cons (pe_ix ix_tup (pv 1) pe_int (fun _ _ => rfl)) pa_nil))) pa_nil))))
      (pss_one (ps_ret (pe_cal c__law_product hr (by decide) (by rfl) (pa_cons (pv 2) (pa_cons (pe_ifExp (pt_cmpR op_gt (pe_ix ix_tup (pv 1) pe_int (fun _ _ => rfl)) pe_int (nomark _)) (pe_tup (pa_cons pe_int (pa_cons (pe_ix ix_tup (pv 1) pe_int (fun _ _ => rfl)) pa_nil))) pe_int) pa_nil)))))), ?_⟩
  have WB := W1.bd
  obtain ⟨pw, rfl, hw, _, _, _⟩ := W1
  obtain ⟨p, vx, vy, rfl, hp, Nx, Ny⟩ := P1
  walk_at "rd"
  refine ⟨vx, _, x, _, rfl, Nx, NQ.int, B1.mono (by decide), (BQ.int WB.ba (by decide)).mono (by decide), fun v1 H1 S1 M1 => ?_⟩
  have hp := sqt_same hp S1
  have hw := sqt_same hw S1
  walk_at "rd"
  refine ⟨vy, _, y, _, rfl, Ny.same S1, NQ.int, B2.mono (by decide), (BQ.int WB.bb (by decide)).mono (by decide), fun v2 H2 S2 M2 => ?_⟩
  have hw := sqt_same hw S2
  have b1 := B1.mul (BQ.int WB.ba (by decide))
  have b2 := B2.mul (BQ.int WB.bb (by decide))
  walk_at "rd"
  refine ⟨v1, v2, _, _, rfl, M1.same S2, M2, b1.mono (by decide), b2.mono (by decide), fun v3 H3 S3 M3 => ?_⟩
  have hw := sqt_same hw S3
  have b3 := b1.add b2
  have S13 := (S1.trans S2).trans S3
  walk_at "rd"
  refine q_dec (fun e => ?_) (fun e => ?_)
  · walk_at "rd"
    intro p9 np9
    have S9 := Same.up (o := .tup [.int 1, .int l]) np9
    walk_at "rd"
    refine ⟨v3, .ref p9, _, ((1 : Int) : Rat) / (l : Rat), rfl, M3.same S9, Num.nq' (.inr ⟨p9, rfl, upd_same, by omega, Nat.gcd_one_left _⟩), b3.mono (by decide), (BQ.of ((⟨by decide⟩ : Bt 1 1).mono (by decide)) WB.bl WB.l0).mono (by decide), fun v4 H4 S4 M4 => ?_⟩
    exact q v4 H4 ((S13.trans S9).trans S4) M4
  · walk_at "rd"
    obtain rfl : l = 1 := by have := WB.lp; omega
    refine ⟨v3, .int 1, _, ((1 : Int) : Rat) / ((1 : Int) : Rat), rfl, M3, NQ.cast (by decide +kernel), b3.mono (by decide), (BQ.of ((⟨by decide⟩ : Bt 1 1).mono (by decide)) WB.bl WB.l0).mono (by decide), fun v4 H4 S4 M4 => ?_⟩
    exact q v4 H4 (S13.trans S4) M4

abbrev s__law_plain_place : Stmt := topS 40
theorem sc__law_plain_place : FnScope ["_law_place", "_law_number_here", "_law_a", "_law_b"] ["_law_place"] (defScope s__law_plain_place) := ⟨rfl, rfl, rfl, by decide +kernel, rfl, by decide +kernel, by decide +kernel⟩
theorem fn__law_plain_place {f : Addr} {fd : FuncData} (F : Fun K "_law_plain_place" "_law_plain_place" s__law_plain_place f fd) (B : Bl mg) (cq__law_is : Cal P w K mg base 2 "_law_is" ["_law_found", "_law_due"] spIsQ) (cq__law_number : Cal P w K mg base 1 "_law_number" ["_law_upper", "_law_lower"] spLowQ) (cq__law_pair : Cal P w K mg base 1 "_law_pair" ["_law_number_here"] spPairQ) : FnOk P w K mg base CX0 3 f fd ["_law_place"] (spN 1 (spPlainPl K)) := by
  refine fnN F sc__law_plain_place (fun cdv A outer s H vs Q E hr h => ?_)
  obtain ⟨v, x, y, rfl, ⟨p, vx, vy, rfl, hp, Nx, Ny⟩, Bx, By, q⟩ := h
  refine ⟨_, (pss_cons (ps_if (PW.pt (pw_or (pt_not (pt_val (pe_callB call_isi (by rfl) B.b_isinstance (by decide +kernel) (pa_cons (pv 0) (pa_cons (pe_bltn (v := .ty "tuple") (by rfl) B.b_tuple (by decide +kernel) rfl) pa_nil))))) (pw_or1 (pt_cmpR op_neI (pe_callB call_lenK (by rfl) B.b_len (by decide +kernel) (pa_cons (pv 0) pa_nil)) pe_int (nomark _))))) (pss_one (ps_ret pe_bl)) pss_nil)
      (pss_cons (ps_for PassesOwn.never (by rfl) (pi_tup (pv 0)) (pg_name (i := 1) sc__law_plain_place.nd rfl (.inl rfl)) (pss_cons (ps_asg (pe_cal cq__law_pair hr (by decide) (by rfl) (pa_cons (pv 1) pa_nil)) (pg_tup (by rfl) (pgs_cons (pg_name (i := 2) sc__law_plain_place.nd rfl (.inl rfl)) (pgs_cons (pg_name (i := 3) sc__law_plain_place.nd rfl (.inl rfl)) pgs_nil))))
      (pss_one (ps_if (PW.pt (pw_or (pt_val (pe_callB call_isi (by rfl) B.b_isinstance (by decide +kernel) (pa_cons (pv 2) (pa_cons (pe_bltn (v := .ty "bool") (by rfl) B.b_bool (by decide +kernel) rfl) pa_nil)))) (pw_or (pt_not (pt_val (pe_callB call_isi (by rfl) B.b_isinstance (by decide +kernel) (pa_cons (pv 2) (pa_cons (pe_bltn (v := .ty "int") (by rfl) B.b_int (by decide +kernel) rfl) pa_nil))))) (pw_or1 (pt_not (pt_val (pe_cal cq__law_is hr (by decide) (by rfl) (pa_cons (pe_cal cq__law_number hr (by decide) (by rfl) (pa_cons (pv 2) (pa_cons (pv 3) pa_nil))) (pa_cons (pv 1) pa_nil))))))))) (pss_one (ps_ret pe_bl)) pss_nil))))
      (pss_one (ps_ret pe_bl)))), ?_⟩
  walk_at "rd"
  refine ⟨_, rfl, p, rfl, ⟨_, hp⟩, ?_⟩
  refine for_tup (K := K) (a := p) (xs := [vx, vy]) (fun i σ H' => ∃ w1 w2 w3 : Option V, σ = [some (.ref p), w1, w2, w3] ∧ Same H H') ⟨_, _, _, rfl, Same.refl H⟩ (fun _ _ _ _ ⟨_, _, _, _, s⟩ => sqt_same hp s) ?_ ?_
  · rintro i z σ H1 hz ⟨w1, w2, w3, rfl, S1⟩
    obtain ⟨r, N, Br⟩ : ∃ r, NQ H1 z r ∧ BQ 900 r := by
      have hm := List.mem_of_getElem? hz
      rcases List.mem_cons.mp hm with e | hm
      · exact ⟨x, e ▸ Nx.same S1, Bx⟩
      rcases List.mem_cons.mp hm with e | hm
      · exact ⟨y, e ▸ Ny.same S1, By⟩
      · cases hm
    walk_at "rd"
    refine ⟨z, r, rfl, N, fun p1 H2 S2 hp1 => ?_⟩
    walk_at "rd"
    refine ⟨_, _, rfl, (by have := r.den_pos; omega), Br.t.mono (by decide), Br.b.mono (by decide), fun v3 H3 S3 N3 => ?_⟩
    walk_at "rd"
    refine ⟨v3, z, r, rfl, N3.is (rat_nd r).symm, (N.same S2).same S3, fun H4 S4 => ?_⟩
    walk_at "rd"
    exact ⟨_, _, _, rfl, ((S1.trans S2).trans S3).trans S4⟩
  · rintro σ H1 ⟨w1, w2, w3, rfl, S1⟩
    walk_at "rd"
    exact q H1 S1

abbrev s__law_moved_right : Stmt := topS 41
theorem sc__law_moved_right : FnScope ["_law_found", "_law_place", "_law_far_here", "_law_path", "_law_gauge", "_law_east", "_law_north"] ["_law_found", "_law_place", "_law_far_here", "_law_path", "_law_gauge"] (defScope s__law_moved_right) := ⟨rfl, rfl, rfl, by decide +kernel, rfl, by decide +kernel, by decide +kernel⟩
theorem fn__law_moved_right {f : Addr} {fd : FuncData} (F : Fun K "_law_moved_right" "_law_moved_right" s__law_moved_right f fd) (B : Bl mg) (cq__law_is : Cal P w K mg base 2 "_law_is" ["_law_found", "_law_due"] spIsQ) (c__law_product : Cal P w K mg base 2 "_law_product" ["_law_first", "_law_second"] (sp2Q (· * ·))) (c__law_sum : Cal P w K mg base 2 "_law_sum" ["_law_first", "_law_second"] (sp2Q (· + ·))) (c__law_measure : Cal P w K mg base 3 "_law_measure" ["_law_place", "_law_slope_here"] (spMeasL K)) (c__law_plain_place : Cal P w K mg base 3 "_law_plain_place" ["_law_place"] (spPlainPl K)) : FnOk P w K mg base CX0 4 f fd ["_law_found", "_law_place", "_law_far_here", "_law_path", "_law_gauge"] (spN 5 (spMovedR K)) := by
  refine fnN F sc__law_moved_right (fun cdv A outer s H vs Q E hr h => ?_)
  obtain ⟨f', v, u, w', z, x, y, t, a, b, l, c, d, m, rfl, hg, PF, PV, NT, WP, WZ, B1, B2, B3, q⟩ := h
  refine ⟨_, (pss_cons (ps_if (pt_not (pt_val (pe_cal c__law_plain_place hr (by decide) (by rfl) (pa_cons (pv 0) pa_nil)))) (pss_one (ps_ret pe_bl)) pss_nil)
      (pss_cons (ps_if (pt_not (pt_val (pe_cal cq__law_is hr (by decide) (by rfl) (pa_cons (pe_cal c__law_measure hr (by decide) (by rfl) (pa_cons (pv 0) (pa_cons (pv 4) pa_nil))) (pa_cons (pe_cal c__law_sum hr (by decide) (by rfl) (pa_cons (pe_cal c__law_measure hr (by decide) (by rfl) (pa_cons (pv 1) (pa_cons (pv 4) pa_nil))) (pa_cons (pv 2) pa_nil))) pa_nil))))) (pss_one (ps_ret pe_bl)) pss_nil)
      (pss_cons (ps_set (i := 5) sc__law_moved_right.nd rfl (.inl rfl) (pe_cal c__law_sum hr (by decide) (by rfl) (pa_cons (pe_ix ix_tup (pv 0) pe_int (fun _ _ => rfl)) (pa_cons (pe_cal c__law_product hr (by decide) (by rfl) (pa_cons (pe_ix ix_tup (pv 1) pe_int (fun _ _ => rfl)) (pa_cons (pe_op op_sub pe_int pe_int) pa_nil))) pa_nil))))
      (pss_cons (ps_set (i := 6) sc__law_moved_right.nd rfl (.inl rfl) (pe_cal c__law_sum hr (by decide) (by rfl) (pa_cons (pe_ix ix_tup (pv 0) pe_int (fun _ _ => rfl)) (pa_cons (pe_cal c__law_product hr (by decide) (by rfl) (pa_cons (pe_ix ix_tup (pv 1) pe_int (fun _ _ => rfl)) (pa_cons (pe_op op_sub pe_int pe_int) pa_nil))) pa_nil))))
      (pss_one (ps_ret (pe_cal cq__law_is hr (by decide) (by rfl) (pa_cons (pe_cal c__law_product hr (by decide) (by rfl) (pa_cons (pv 5) (pa_cons (pe_ix ix_tup (pv 3) pe_int (fun _ _ => rfl)) pa_nil))) (pa_cons (pe_cal c__law_product hr (by decide) (by rfl) (pa_cons (pv 6) (pa_cons (pe_ix ix_tup (pv 3) pe_int (fun _ _ => rfl)) pa_nil))) pa_nil))))))))), ?_⟩
  have WB := WP.bd
  have WC := WZ.bd
  have bf := bq_farr (t := t) B3 WB.bl WC.bl WB.ba WB.bb WC.ba WC.bb hg
  have BX := bq_slid (x := x) B1 bf WB.ba WB.bl WB.l0
  have BY := bq_slid (x := y) B2 bf WB.bb WB.bl WB.l0
  have bn : BQ 1 ((0 - 1 : Int) : Rat) := BQ.int (⟨by decide⟩ : Bt 1 (0 - 1)) (by decide)
  walk_at "rd"
  refine ⟨f', _, _, rfl, PF, BX.mono (by decide), BY.mono (by decide), fun H1 S1 => ?_⟩
  walk_at "rd"
  refine ⟨f', z, _, _, c, d, m, rfl, PF.same S1, WZ.same S1, BX.mono (by decide), BY.mono (by decide), fun u1 H2 S2 M1 => ?_⟩
  walk_at "rd"
  have S12 := S1.trans S2
  refine ⟨v, z, x, y, c, d, m, rfl, PV.same S12, WZ.same S12, B1.mono (by decide), B2.mono (by decide), fun u2 H3 S3 M2 => ?_⟩
  walk_at "rd"
  have S13 := S12.trans S3
  refine ⟨u2, u, _, t, rfl, M2, NT.same S13, (bq_meas B1 B2 WC).mono (by decide), B3.mono (by decide), fun u3 H4 S4 M3 => ?_⟩
  walk_at "rd"
  have S14 := S13.trans S4
  refine ⟨u1, u3, _, rfl, ((M1.is (slid_meas WB.l0 WC.l0 hg)).same S3).same S4, M3, fun H5 S5 => ?_⟩
  walk_at "rd"
  have S15 := S14.trans S5
  have PF' := PF
  obtain ⟨pf, fx, fy, rfl, hf, Fx, Fy⟩ := PF.same S15
  obtain ⟨pv, vx, vy, rfl, hv, Vx, Vy⟩ := PV.same S15
  obtain ⟨pw, rfl, hw, _, _, _⟩ := WP.same S15
  walk_at "rd"
  refine ⟨vx, _, x, _, rfl, Vx, NQ.int, B1.mono (by decide), bn.mono (by decide), fun v1 H6 S6 N1 => ?_⟩
  have hf := sqt_same hf S6
  have hv := sqt_same hv S6
  have hw := sqt_same hw S6
  walk_at "rd"
  have bnx := B1.mul bn
  have bny := B2.mul bn
  refine ⟨fx, v1, _, _, rfl, Fx.same S6, N1, BX.mono (by decide), bnx.mono (by decide), fun v2 H7 S7 N2 => ?_⟩
  have hf := sqt_same hf S7
  have hv := sqt_same hv S7
  have hw := sqt_same hw S7
  walk_at "rd"
  refine ⟨vy, _, y, _, rfl, (Vy.same S6).same S7, NQ.int, B2.mono (by decide), bn.mono (by decide), fun v3 H8 S8 N3 => ?_⟩
  have hf := sqt_same hf S8
  have hv := sqt_same hv S8
  have hw := sqt_same hw S8
  walk_at "rd"
  refine ⟨fy, v3, _, _, rfl, ((Fy.same S6).same S7).same S8, N3, BY.mono (by decide), bny.mono (by decide), fun v4 H9 S9 N4 => ?_⟩
  have hw := sqt_same hw S9
  walk_at "rd"
  refine ⟨v2, _, _, _, rfl, (N2.same S8).same S9, NQ.int, (BX.add bnx).mono (by decide), (BQ.int WB.bb (by decide)).mono (by decide), fun v5 K1 T1 N5 => ?_⟩
  have hw := sqt_same hw T1
  walk_at "rd"
  refine ⟨v4, _, _, _, rfl, N4.same T1, NQ.int, (BY.add bny).mono (by decide), (BQ.int WB.ba (by decide)).mono (by decide), fun v6 K2 T2 N6 => ?_⟩
  walk_at "rd"
  refine ⟨v5, v6, _, rfl, (N5.is slid_line).same T2, N6, fun K3 T3 => ?_⟩
  exact q K3 (((((((S15.trans S6).trans S7).trans S8).trans S9).trans T1).trans T2).trans T3)

abbrev s__law_refused : Stmt := topS 42
theorem sc__law_refused : FnScope ["_law_place", "_law_far_here", "_law_path", "_law_gauge", "e"] ["_law_place", "_law_far_here", "_law_path", "_law_gauge"] (defScope s__law_refused) := ⟨rfl, rfl, rfl, by decide +kernel, rfl, by decide +kernel, by decide +kernel⟩
theorem fn__law_refused {f : Addr} {fd : FuncData} (F : Fun K "_law_refused" "_law_refused" s__law_refused f fd) (B : Bl mg) {C_NoWay fI_NoWay : Addr} (e_NoWay : ErrC K mg "NoWay" C_NoWay fI_NoWay) (cx_moved_2_move_along : CalX P w K mg base 6 "moved" ["place", "by", "move", "along"] (spMoved K C_NoWay) 2 ["move", "along"] [] [0, 1, 2, 3]) : FnOk P w K mg base CX0 7 f fd ["_law_place", "_law_far_here", "_law_path", "_law_gauge"] (spN 4 (spRefused K)) := by
  refine fnN F sc__law_refused (fun cdv A outer s H vs Q E hr h => ?_)
  obtain ⟨v, u, w', z, x, y, t, a, b, l, c, d, m, rfl, hg, PV, NT, WP, WZ, B1, B2, B3, q⟩ := h
  refine ⟨_, (pss_cons (ps_try_as (i := 4) (tb := _) (ts := _) (Wout := fun _ _ _ _ => False) rfl rfl sc__law_refused.nd rfl rfl ⟨rfl, by decide, .inl e_NoWay.gm⟩ takes0 (fun W pn xe tk _ => pss_one (ps_expr (pe_calX cx_moved_2_move_along hr (by decide) (by rfl) tk (pa_cons (pv 0) (pa_cons (pv 1) pa_nil)) (pk_cons (pv 2) (pk_cons (pv 3) pk_nil))))) (fun a oe cls d pn hz hf => (pss_one (ps_ret (pe_cmpR (op_eqDs hr.units) (pe_xf e_NoWay.xf e_NoWay.nF hz hf (pv 4)) (pe_tup (pa_cons (pv 2) (pa_cons (pv 3) pa_nil))) (nomark _))))))
      (pss_one (ps_ret pe_bl))), ?_⟩
  walk_at "rd"
  refine ⟨v, u, w', z, x, y, t, a, b, l, c, d, m, rfl, PV, NT, WP, WZ, B1.mono (by decide), B2.mono (by decide), B3.mono (by decide), fun h => absurd hg h, fun _ e p H1 S1 ne hp he => ?_⟩
  refine ⟨true, e_NoWay.ex, fun _ a1 na => ?_, nofun⟩
  walk_at "rd"
  refine q_xfV rfl he rfl ?_
  walk_at "rd"
  intro p2 np2
  have S2 := Same.up (o := .tup [w', z]) np2
  have SS := S1.trans S2
  refine q_eqGD (d := .tuple [dW a b l, dW c d m]) (.tup (SqT.of (S2 _ _ hp)) (.cons (WP.same SS).dp (.cons (WZ.same SS).dp .nil))) (.tup (SqT.of upd_same) (.cons (WP.same SS).dp (.cons (WZ.same SS).dp .nil))) (gd_ways WP.bd WZ.bd) (by decide) ?_
  exact q _ SS

abbrev s__law_right : Stmt := topS 43
theorem sc__law_right : FnScope ["_law_place", "_law_far_here", "_law_path", "_law_gauge", "_law_found"] ["_law_place", "_law_far_here", "_law_path", "_law_gauge"] (defScope s__law_right) := ⟨rfl, rfl, rfl, by decide +kernel, rfl, by decide +kernel, by decide +kernel⟩
theorem fn__law_right {f : Addr} {fd : FuncData} (F : Fun K "_law_right" "_law_right" s__law_right f fd) (B : Bl mg) (c__law_product : Cal P w K mg base 2 "_law_product" ["_law_first", "_law_second"] (sp2Q (· * ·))) (c__law_moved_right : Cal P w K mg base 4 "_law_moved_right" ["_law_found", "_law_place", "_law_far_here", "_law_path", "_law_gauge"] (spMovedR K)) (c__law_refused : Cal P w K mg base 7 "_law_refused" ["_law_place", "_law_far_here", "_law_path", "_law_gauge"] (spRefused K)) (ck_moved_2_move_along : CalK P w K mg base 6 "moved" ["place", "by", "move", "along"] (spE0 (spMoved K C_NoWay)) 2 ["move", "along"] [] [0, 1, 2, 3]) (ck_moved_1_move_by_along : CalK P w K mg base 6 "moved" ["place", "by", "move", "along"] (spE0 (spMoved K C_NoWay)) 1 ["move", "by", "along"] [] [0, 2, 1, 3]) (ck_moved_2_along_move : CalK P w K mg base 6 "moved" ["place", "by", "move", "along"] (spE0 (spMoved K C_NoWay)) 2 ["along", "move"] [] [0, 1, 3, 2]) : FnOk P w K mg base CX0 8 f fd ["_law_place", "_law_far_here", "_law_path", "_law_gauge"] (spN 4 (spRight9 K)) := by
  refine fnN F sc__law_right (fun cdv A outer s H vs Q E hr h => ?_)
  obtain ⟨v, u, w', z, x, y, t, a, b, l, c, d, m, rfl, PV, NT, WP, WZ, B1, B2, B3, q⟩ := h
  refine ⟨_, (pss_cons (ps_if (pt_cmpR op_eqI (pe_op op_add (pe_op op_mulW (pe_ix ix_tup (pv 2) pe_int (fun _ _ => rfl)) (pe_ix ix_tup (pv 3) pe_int (fun _ _ => rfl))) (pe_op op_mulW (pe_ix ix_tup (pv 2) pe_int (fun _ _ => rfl)) (pe_ix ix_tup (pv 3) pe_int (fun _ _ => rfl)))) pe_int (nomark _)) (pss_one (ps_ret (pe_cal c__law_refused hr (by decide) (by rfl) (pa_cons (pv 0) (pa_cons (pv 1) (pa_cons (pv 2) (pa_cons (pv 3) pa_nil))))))) pss_nil)
      (pss_cons (ps_set (i := 4) sc__law_right.nd rfl (.inl rfl) (pe_calK ck_moved_2_along_move hr (by decide) (by rfl) (pa_cons (pv 0) (pa_cons (pv 1) pa_nil)) (pk_cons (pv 3) (pk_cons (pv 2) pk_nil))))
      (pss_cons (ps_if (pt_not (pt_val (pe_cal c__law_moved_right hr (by decide) (by rfl) (pa_cons (pv 4) (pa_cons (pv 0) (pa_cons (pv 1) (pa_cons (pv 2) (pa_cons (pv 3) pa_nil)))))))) (pss_one (ps_ret pe_bl)) pss_nil)
      (pss_cons (ps_if (pt_cmpR (op_neD hr.units) (pe_calK ck_moved_1_move_by_along hr (by decide) (by rfl) (pa_cons (pv 0) pa_nil) (pk_cons (pv 2) (pk_cons (pv 1) (pk_cons (pv 3) pk_nil)))) (pv 4) (nomark _)) (pss_one (ps_ret pe_bl)) pss_nil)
      (pss_one (ps_ret (pe_cmpR (op_eqD hr.units) (pe_calK ck_moved_2_move_along hr (by decide) (by rfl) (pa_cons (pv 4) (pa_cons (pe_cal c__law_product hr (by decide) (by rfl) (pa_cons (pv 1) (pa_cons (pe_op op_sub pe_int pe_int) pa_nil))) pa_nil)) (pk_cons (pv 2) (pk_cons (pv 3) pk_nil))) (pv 0) (nomark _)))))))), ?_⟩
  have WB := WP.bd
  have WC := WZ.bd
  have WP' := WP
  have WZ' := WZ
  obtain ⟨pw, rfl, hw, _, _, _⟩ := WP
  obtain ⟨pz, rfl, hz, _, _, _⟩ := WZ
  walk_at "rd"
  refine q_I (mulW WB.ba WC.ba (by decide)) ?_
  walk_at "rd"
  refine q_I (mulW WB.bb WC.bb (by decide)) ?_
  walk_at "rd"
  refine q_dec (fun e => ?_) (fun e => ?_)
  · walk_at "rd"
    refine ⟨v, u, .ref pw, .ref pz, x, y, t, a, b, l, c, d, m, rfl, e, PV, NT, WP', WZ', B1, B2, B3, fun H1 S1 => ?_⟩
    exact q H1 S1
  · have hg : gain a b c d ≠ 0 := e
    have bf := bq_farr (t := t) B3 WB.bl WC.bl WB.ba WB.bb WC.ba WC.bb hg
    have BX := bq_slid (x := x) B1 bf WB.ba WB.bl WB.l0
    have BY := bq_slid (x := y) B2 bf WB.bb WB.bl WB.l0
    have bn : BQ 1 ((0 - 1 : Int) : Rat) := BQ.int (⟨by decide⟩ : Bt 1 (0 - 1)) (by decide)
    walk_at "rd"
    refine ⟨v, u, .ref pw, .ref pz, x, y, t, a, b, l, c, d, m, rfl, PV, NT, WP', WZ', B1.mono (by decide), B2.mono (by decide), B3.mono (by decide), fun _ p1 H1 S1 P1 => ?_, fun h => absurd h hg⟩
    walk_at "rd"
    refine ⟨.ref p1, v, u, .ref pw, .ref pz, x, y, t, a, b, l, c, d, m, rfl, hg, P1, PV.same S1, NT.same S1, WP'.same S1, WZ'.same S1, B1, B2, B3, fun H2 S2 => ?_⟩
    have S12 := S1.trans S2
    walk_at "rd"
    refine ⟨v, u, .ref pw, .ref pz, x, y, t, a, b, l, c, d, m, rfl, PV.same S12, NT.same S12, WP'.same S12, WZ'.same S12, B1.mono (by decide), B2.mono (by decide), B3.mono (by decide), fun _ p3 H3 S3 P3 => ?_, fun h => absurd h hg⟩
    have S13 := S12.trans S3
    have P13 := (P1.same S2).same S3
    walk_at "rd"
    refine q_neGD P3.dp P13.dp (gd_pl (BX.mono (by decide)) (BY.mono (by decide))) (by decide) ?_
    walk_at "rd"
    refine ⟨u, _, t, _, rfl, NT.same S13, NQ.int, B3.mono (by decide), bn.mono (by decide), fun v4 H4 S4 N4 => ?_⟩
    have S14 := S13.trans S4
    walk_at "rd"
    refine ⟨.ref p1, v4, .ref pw, .ref pz, _, _, _, a, b, l, c, d, m, rfl, P13.same S4, N4, WP'.same S14, WZ'.same S14, BX.mono (by decide), BY.mono (by decide), (B3.mul bn).mono (by decide), fun _ p5 H5 S5 P5 => ?_, fun h => absurd h hg⟩
    rw [slid_back, slid_back] at P5
    walk_at "rd"
    refine q_eqGD P5.dp ((PV.same S14).same S5).dp (gd_pl (B1.mono (by decide)) (B2.mono (by decide))) (by decide) ?_
    exact q _ (S14.trans S5)

abbrev s__law_left_out : Stmt := topS 44
theorem sc__law_left_out : FnScope ["_law_place", "_law_far_here", "_law_path", "_law_east"] ["_law_place", "_law_far_here", "_law_path"] (defScope s__law_left_out) := ⟨rfl, rfl, rfl, by decide +kernel, rfl, by decide +kernel, by decide +kernel⟩
theorem fn__law_left_out {f : Addr} {fd : FuncData} (F : Fun K "_law_left_out" "_law_left_out" s__law_left_out f fd) (B : Bl mg) (c__law_moved_right : Cal P w K mg base 4 "_law_moved_right" ["_law_found", "_law_place", "_law_far_here", "_law_path", "_law_gauge"] (spMovedR K)) (c__law_refused : Cal P w K mg base 7 "_law_refused" ["_law_place", "_law_far_here", "_law_path", "_law_gauge"] (spRefused K)) (c__law_sum : Cal P w K mg base 2 "_law_sum" ["_law_first", "_law_second"] (sp2Q (· + ·))) (ck_moved_2_along : CalK P w K mg base 6 "moved" ["place", "by", "move", "along"] (spE0 (spMoved K C_NoWay)) 2 ["along"] [V.ref a_EAST] [0, 1, 2, 3]) (ck_moved_2_move : CalK P w K mg base 6 "moved" ["place", "by", "move", "along"] (spE0 (spMoved K C_NoWay)) 2 ["move"] [V.ref a_EAST] [0, 1, 3, 2]) (ck_moved_2 : CalK P w K mg base 6 "moved" ["place", "by", "move", "along"] (spE0 (spMoved K C_NoWay)) 2 [] [V.ref a_EAST, V.ref a_EAST] [0, 1, 2, 3]) (w_EAST : ∀ H, Way K H (.ref a_EAST) 1 0 1) : FnOk P w K mg base CX0 8 f fd ["_law_place", "_law_far_here", "_law_path"] (spN 3 (spLeftOut K)) := by
  refine fnN F sc__law_left_out (fun cdv A outer s H vs Q E hr h => ?_)
  obtain ⟨v, u, w', x, y, t, a, b, l, rfl, PV, NT, WP, B1, B2, B3, q⟩ := h
  refine ⟨_, (pss_cons (ps_set (i := 3) sc__law_left_out.nd rfl (.inl rfl) (pe_tup (pa_cons pe_int (pa_cons pe_int (pa_cons pe_int pa_nil)))))
      (pss_cons (ps_if (pt_cmpR (op_neD hr.units) (pe_calK ck_moved_2 hr (by decide) (by rfl) (pa_cons (pv 0) (pa_cons (pv 1) pa_nil)) pk_nil) (pe_tup (pa_cons (pe_cal c__law_sum hr (by decide) (by rfl) (pa_cons (pe_ix ix_tup (pv 0) pe_int (fun _ _ => rfl)) (pa_cons (pv 1) pa_nil))) (pa_cons (pe_ix ix_tup (pv 0) pe_int (fun _ _ => rfl)) pa_nil))) (nomark _)) (pss_one (ps_ret pe_bl)) pss_nil)
      (pss_cons (ps_if (pt_cmpR op_eqI (pe_ix ix_tup (pv 2) pe_int (fun _ _ => rfl)) pe_int (nomark _)) (pss_one (ps_ret (pe_and (pe_cal c__law_refused hr (by decide) (by rfl) (pa_cons (pv 0) (pa_cons (pv 1) (pa_cons (pv 2) (pa_cons (pv 3) pa_nil))))) (pe_one (pe_cal c__law_refused hr (by decide) (by rfl) (pa_cons (pv 0) (pa_cons (pv 1) (pa_cons (pv 3) (pa_cons (pv 2) pa_nil))))))))) pss_nil)
      (pss_cons (ps_if (pt_not (pt_val (pe_cal c__law_moved_right hr (by decide) (by rfl) (pa_cons (pe_calK ck_moved_2_move hr (by decide) (by rfl) (pa_cons (pv 0) (pa_cons (pv 1) pa_nil)) (pk_cons (pv 2) pk_nil)) (pa_cons (pv 0) (pa_cons (pv 1) (pa_cons (pv 2) (pa_cons (pv 3) pa_nil)))))))) (pss_one (ps_ret pe_bl)) pss_nil)
      (pss_one (ps_ret (pe_cal c__law_moved_right hr (by decide) (by rfl) (pa_cons (pe_calK ck_moved_2_along hr (by decide) (by rfl) (pa_cons (pv 0) (pa_cons (pv 1) pa_nil)) (pk_cons (pv 2) pk_nil)) (pa_cons (pv 0) (pa_cons (pv 1) (pa_cons (pv 3) (pa_cons (pv 2) pa_nil)))))))))))), ?_⟩
  have WB := WP.bd
  have WP' := WP
  obtain ⟨pw, rfl, hw, _, _, _⟩ := WP
  have PV' := PV
  obtain ⟨pv, vx, vy, rfl, hv, Vx, Vy⟩ := PV
  have g1 : gain 1 0 1 0 ≠ 0 := by decide
  walk_at "rd"
  intro pe npe
  have S0 := Same.up (o := .tup [.int 1, .int 0, .int 1]) npe
  have WE0 : Way K (upd H pe (.tup [.int 1, .int 0, .int 1])) (.ref pe) 1 0 1 := ⟨pe, rfl, SqT.of upd_same, by decide, by decide, by decide⟩
  generalize upd H pe (.tup [.int 1, .int 0, .int 1]) = H0 at S0 WE0 ⊢
  walk_at "rd"
  refine ⟨.ref pv, u, .ref a_EAST, .ref a_EAST, x, y, t, 1, 0, 1, 1, 0, 1, rfl, PV'.same S0, NT.same S0, w_EAST _, w_EAST _, B1.mono (by decide), B2.mono (by decide), B3.mono (by decide), fun _ p1 H1 S1 P1 => ?_, fun h => absurd h g1⟩
  rw [slid_e, slid_0] at P1
  have S01 := S0.trans S1
  have hv1 := sqt_same hv S01
  walk_at "rd"
  refine ⟨vx, u, x, t, rfl, Vx.same S01, NT.same S01, B1.mono (by decide), B3.mono (by decide), fun v2 H2 S2 N2 => ?_⟩
  have S02 := S01.trans S2
  have hv2 := sqt_same hv S02
  walk_at "rd"
  intro p3 np3
  have S3 := Same.up (o := .tup [v2, vy]) np3
  have S03 := S02.trans S3
  have P3 : Pl K (upd H2 p3 (.tup [v2, vy])) (.ref p3) (x + t) y := ⟨p3, _, _, rfl, SqT.of upd_same, N2.same S3, Vy.same S03⟩
  refine q_neGD ((P1.same S2).same S3).dp P3.dp (gd_pl ((B1.add B3).mono (by decide)) (B2.mono (by decide))) (by decide) ?_
  have hw3 := sqt_same hw S03
  have WEE := ((WE0.same S1).same S2).same S3
  generalize upd H2 p3 (.tup [v2, vy]) = H3 at S03 P3 hw3 WEE ⊢
  clear P1 P3
  walk_at "rd"
  refine q_dec (fun e => ?_) (fun e => ?_)
  · walk_at "rd"
    refine ⟨.ref pv, u, .ref pw, .ref pe, x, y, t, a, b, l, 1, 0, 1, rfl, gain_e.trans e, PV'.same S03, NT.same S03, WP'.same S03, WEE, B1, B2, B3, fun H4 S4 => ?_⟩
    have S04 := S03.trans S4
    walk_at "rd"
    refine ⟨.ref pv, u, .ref pe, .ref pw, x, y, t, 1, 0, 1, a, b, l, rfl, gain_e'.trans e, PV'.same S04, NT.same S04, WEE.same S4, WP'.same S04, B1, B2, B3, fun H5 S5 => ?_⟩
    exact q H5 (S04.trans S5)
  · have ga : gain a b 1 0 ≠ 0 := by rw [gain_e]; exact e
    have gb : gain 1 0 a b ≠ 0 := by rw [gain_e']; exact e
    walk_at "rd"
    refine ⟨.ref pv, u, .ref pw, .ref a_EAST, x, y, t, a, b, l, 1, 0, 1, rfl, PV'.same S03, NT.same S03, WP'.same S03, w_EAST _, B1.mono (by decide), B2.mono (by decide), B3.mono (by decide), fun _ p4 H4 S4 P4 => ?_, fun h => absurd h ga⟩
    have S04 := S03.trans S4
    walk_at "rd"
    refine ⟨.ref p4, .ref pv, u, .ref pw, .ref pe, x, y, t, a, b, l, 1, 0, 1, rfl, ga, P4, PV'.same S04, NT.same S04, WP'.same S04, WEE.same S4, B1, B2, B3, fun H5 S5 => ?_⟩
    have S05 := S04.trans S5
    walk_at "rd"
    refine ⟨.ref pv, u, .ref a_EAST, .ref pw, x, y, t, 1, 0, 1, a, b, l, rfl, PV'.same S05, NT.same S05, w_EAST _, WP'.same S05, B1.mono (by decide), B2.mono (by decide), B3.mono (by decide), fun _ p6 H6 S6 P6 => ?_, fun h => absurd h gb⟩
    have S06 := S05.trans S6
    walk_at "rd"
    refine ⟨.ref p6, .ref pv, u, .ref pe, .ref pw, x, y, t, 1, 0, 1, a, b, l, rfl, gb, P6, PV'.same S06, NT.same S06, (WEE.same S4).same (S5.trans S6), WP'.same S06, B1, B2, B3, fun H7 S7 => ?_⟩
    exact q H7 (S06.trans S7)

abbrev s_law : Stmt := topS 45
theorem sc_law : FnScope ["_law_script", "_law_k", "_law_box_here", "_law_turn", "_law_path", "_law_gauge", "_law_place", "_law_far_here"] ["_law_script"] (defScope s_law) := ⟨rfl, rfl, rfl, by decide +kernel, rfl, by decide +kernel, by decide +kernel⟩
theorem fn_law {f : Addr} {fd : FuncData} (F : Fun K "law" "law" s_law f fd) (B : Bl mg) (c__law_right : Cal P w K mg base 8 "_law_right" ["_law_place", "_law_far_here", "_law_path", "_law_gauge"] (spRight9 K)) (c__law_left_out : Cal P w K mg base 8 "_law_left_out" ["_law_place", "_law_far_here", "_law_path"] (spLeftOut K)) (cq__law_drawn : Cal P w K mg base 3 "_law_drawn" ["_law_box_here"] spDrawnQ) (c__law_take : Cal P w K mg base 1 "_law_take" ["_law_box_here", "_law_many"] spTake) (c__law_slope : Cal P w K mg base 2 "_law_slope" ["_law_box_here"] (spSlope K)) (c__law_box : Cal P w K mg base 1 "_law_box" ["_law_cell_here"] spBox) (c__law_cell : Cal P w K mg base 1 "_law_cell" ["_law_script", "_law_k"] (spCell K)) : FnOk P w K mg base CX0 9 f fd ["_law_script"] (spN 1 (spLaw K)) := by
  refine fnN F sc_law (fun cdv A outer s H vs Q E hr h => ?_)
  obtain ⟨a0, ns, rfl, hS, hlen, q⟩ := h
  refine ⟨_, (pss_cons (ps_for PassesOwn.never (by rfl) (pi_range1 (by rfl) B.b_range (pa_cons (pe_callB (call_maxK rfl) (by rfl) B.b_max (by decide +kernel) (pa_cons pe_int (pa_cons (pe_callB (call_minK rfl) (by rfl) B.b_min (by decide +kernel) (pa_cons pe_int (pa_cons (pe_callB call_lenK (by rfl) B.b_len (by decide +kernel) (pa_cons (pv 0) pa_nil)) pa_nil))) pa_nil))) pa_nil)) (pg_name (i := 1) sc_law.nd rfl (.inl rfl)) (pss_cons (ps_set (i := 2) sc_law.nd rfl (.inl rfl) (pe_cal c__law_box hr (by decide) (by rfl) (pa_cons (pe_cal c__law_cell hr (by decide) (by rfl) (pa_cons (pv 0) (pa_cons (pv 1) pa_nil))) pa_nil)))
      (pss_cons (ps_set (i := 3) sc_law.nd rfl (.inl rfl) (pe_cal c__law_take hr (by decide) (by rfl) (pa_cons (pv 2) (pa_cons pe_int pa_nil))))
      (pss_cons (ps_par (i := 4) (j := 5) (by rfl) sc_law.nd rfl rfl (by decide) rfl rfl (pa_cons (pe_cal c__law_slope hr (by decide) (by rfl) (pa_cons (pv 2) pa_nil)) (pa_cons (pe_cal c__law_slope hr (by decide) (by rfl) (pa_cons (pv 2) pa_nil)) pa_nil)) (by rfl))
      (pss_cons (ps_if (pt_cmpR op_eqI (pv 3) pe_int (nomark _)) (pss_one (ps_set (i := 5) sc_law.nd rfl (.inl rfl) (pe_tup (pa_cons (pe_op op_sub pe_int (pe_ix ix_tup (pv 4) pe_int (fun _ _ => rfl))) (pa_cons (pe_ix ix_tup (pv 4) pe_int (fun _ _ => rfl)) (pa_cons (pe_ix ix_tup (pv 4) pe_int (fun _ _ => rfl)) pa_nil)))))) pss_nil)
      (pss_cons (ps_if (pt_cmpR op_eqI (pv 3) pe_int (nomark _)) (pss_one (ps_set (i := 4) sc_law.nd rfl (.inl rfl) (pe_ix ix_list (pe_lst (pa_cons (pe_tup (pa_cons pe_int (pa_cons pe_int (pa_cons pe_int pa_nil)))) (pa_cons (pe_tup (pa_cons pe_int (pa_cons pe_int (pa_cons pe_int pa_nil)))) (pa_cons (pe_tup (pa_cons (pe_op op_sub pe_int pe_int) (pa_cons pe_int (pa_cons pe_int pa_nil)))) pa_nil)))) (pe_cal c__law_take hr (by decide) (by rfl) (pa_cons (pv 2) (pa_cons pe_int pa_nil))) (fun _ _ => rfl)))) pss_nil)
      (pss_cons (ps_set (i := 6) sc_law.nd rfl (.inl rfl) (pe_tup (pa_cons (pe_cal cq__law_drawn hr (by decide) (by rfl) (pa_cons (pv 2) pa_nil)) (pa_cons (pe_cal cq__law_drawn hr (by decide) (by rfl) (pa_cons (pv 2) pa_nil)) pa_nil))))
      (pss_cons (ps_set (i := 7) sc_law.nd rfl (.inl rfl) (pe_ix ix_list (pe_lst (pa_cons (pe_cal cq__law_drawn hr (by decide) (by rfl) (pa_cons (pv 2) pa_nil)) (pa_cons pe_int pa_nil))) (pe_callTy call_intK (by rfl) B.b_int (by decide +kernel) (pa_cons (pe_cmpR op_eqI (pe_cal c__law_take hr (by decide) (by rfl) (pa_cons (pv 2) (pa_cons pe_int pa_nil))) pe_int (nomark _)) pa_nil)) (fun _ _ => rfl)))
      (pss_cons (ps_if (PW.pt (pw_or (pt_not (pt_val (pe_cal c__law_right hr (by decide) (by rfl) (pa_cons (pv 6) (pa_cons (pv 7) (pa_cons (pv 4) (pa_cons (pv 5) pa_nil))))))) (pw_or1 (pt_not (pt_val (pe_cal c__law_left_out hr (by decide) (by rfl) (pa_cons (pv 6) (pa_cons (pv 7) (pa_cons (pv 4) pa_nil))))))))) (pss_one (ps_ret pe_bl)) pss_nil)
      (pss_one (ps_if (pt_not (pt_val (pe_cal c__law_right hr (by decide) (by rfl) (pa_cons (pe_tup (pa_cons (pv 7) (pa_cons (pe_ix ix_tup (pv 6) pe_int (fun _ _ => rfl)) pa_nil))) (pa_cons (pe_ix ix_tup (pv 6) pe_int (fun _ _ => rfl)) (pa_cons (pv 5) (pa_cons (pv 4) pa_nil))))))) (pss_one (ps_ret pe_bl)) pss_nil)))))))))))
      (pss_one (ps_ret pe_bl))), ?_⟩
  walk_at "rd"
  refine q_lenL hS ?_
  walk_at "rd"
  generalize hN : (if (if ((ns.map V.int).length : Int) < 8 then ((ns.map V.int).length : Int) else 8) > 2 then (if ((ns.map V.int).length : Int) < 8 then ((ns.map V.int).length : Int) else 8) else 2) = N
  have hN0 : 0 ≤ N ∧ N ≤ 8 := by
    subst hN
    split <;> split <;> omega
  refine ⟨N, rfl, by omega, by omega, ?_⟩
  refine for_range (lo := 0) (n := N.toNat) (fun i σ H' => ∃ v1 v2 v3 v4 v5 v6 v7 : Option V, σ = [some (.ref a0), v1, v2, v3, v4, v5, v6, v7] ∧ Same H H') ⟨none, none, none, none, none, none, none, rfl, Same.refl H⟩ ?_ (fun σ H' ⟨v1, v2, v3, v4, v5, v6, v7, hσ, hs⟩ => by
    subst hσ
    walk_at "rd"
    exact q H')
  rintro i σ H1 hi ⟨v1, v2, v3, v4, v5, v6, v7, rfl, S1⟩
  walk_at "rd"
  rw [Int.zero_add]
  refine ⟨a0, ns, i, rfl, S1.seq hS, by omega, fun x => ?_⟩
  walk_at "rd"
  refine ⟨x, rfl, fun bx ba bb np ha0 hb0 hb1 => ?_⟩
  have S2 := S1.trans (Same.up (o := .lst [.int ba, .int bb, .int 0]) np)
  have BX : Box (upd H1 bx (.lst [.int ba, .int bb, .int 0])) bx 0 := ⟨ba, bb, 0, upd_same, ha0, hb0, hb1, by decide, by decide⟩
  have fr : H bx = none := S1.free np
  generalize upd H1 bx (.lst [.int ba, .int bb, .int 0]) = H2 at S2 BX
  walk_at "rd"
  refine ⟨bx, 4, _, rfl, BX, by decide, (Bt.small (by decide) (by decide)).mono (by decide), by omega, fun dt H3 dta dtb G3 BX3 => ?_⟩
  have GA := (Go.of (bx := bx) S2).trans G3
  walk_at "rd"
  refine ⟨bx, _, rfl, BX3, by omega, fun vp a b l H4 WP g4 BX4 => ?_⟩
  have GA := GA.trans g4
  walk_at "rd"
  refine ⟨bx, _, rfl, BX4, by omega, fun vz c d m H5 WZ g5 BX5 => ?_⟩
  have GT := GA.trans g5
  have WP := WP.go BX4 g5
  walk_at "rd"
  refine q_dec (fun e => ?_) (fun e => ?_)
  · have WB := WP.bd
    have WP0 := WP
    obtain ⟨pw, rfl, hw, _, _, _⟩ := WP
    walk_at "rd"
    intro pg npg
    have Sg := Same.up (o := .tup [.int (0 - b), .int a, .int l]) npg
    have WG : Way K (upd H5 pg (.tup [.int (0 - b), .int a, .int l])) (.ref pg) (0 - b) a l := (wayb (by rw [Int.zero_sub, Int.neg_mul_neg, Int.add_comm]; exact WB.e) WB.lp WB.l1).way (SqT.of upd_same)
    have BXt := BX5.same Sg
    have GT := GT.trans (Go.of Sg)
    have WP := WP0.same Sg
    clear WZ WP0 hw
    have WZ := WG
    generalize upd H5 pg (.tup [.int (0 - b), .int a, .int l]) = H5' at Sg BXt GT WP WZ ⊢
    clear WG
    walk_at "rd"
    refine ⟨bx, _, rfl, BXt, by omega, fun vx x H5 Nx Bx g5 BX5 => ?_⟩
    have GC := GT.trans g5
    walk_at "rd"
    refine ⟨bx, _, rfl, BX5, by omega, fun vy y H6 Ny By g6 BX6 => ?_⟩
    have GC := GC.trans g6
    walk_at "rd"
    intro p7 np7
    have S7 := Same.up (o := .tup [vx, vy]) np7
    have nb7 := BX6.fresh np7
    have hp7 : upd H6 p7 (.tup [vx, vy]) p7 = some (.tup [vx, vy]) := upd_same
    have BX7 := BX6.same S7
    have Nx7 := (Nx.go BX5 g6).same S7
    have Ny7 := Ny.same S7
    have WP7 := ((WP.go BXt g5).go BX5 g6).same S7
    have WZ7 := ((WZ.go BXt g5).go BX5 g6).same S7
    have GC := GC.trans (Go.of S7)
    generalize upd H6 p7 (.tup [vx, vy]) = H7 at S7 hp7 BX7 Nx7 Ny7 WP7 WZ7 GC ⊢
    clear WP WZ Nx Ny
    walk_at "rd"
    refine ⟨bx, _, rfl, BX7, by omega, fun vt t H8 Nt Bt8 g8 BX8 => ?_⟩
    have GC := GC.trans g8
    have WP8 := WP7.go BX7 g8
    have WZ8 := WZ7.go BX7 g8
    have Nx8 := Nx7.go BX7 g8
    have Ny8 := Ny7.go BX7 g8
    have hp8 := g8 _ _ hp7 nb7
    walk_at "rd"
    intro p9 np9
    have S9 := Same.up (o := .lst [vt, .int 0]) np9
    have nb9 := BX8.fresh np9
    have BX9 := BX8.same S9
    walk_at "rd"
    refine ⟨bx, 6, _, rfl, BX9, by decide, (Bt.small (by decide) (by decide)).mono (by decide), by omega, fun d10 H10 d10a d10b g10 BX10 => ?_⟩
    have hl := g10 _ _ upd_same nb9
    have GC := (GC.trans (Go.of S9)).trans g10
    have PV : Pl K H10 (.ref p7) x y := ⟨p7, vx, vy, rfl, SqT.of (g10 _ _ (S9 _ _ hp8) nb7), (Nx8.same S9).go BX9 g10, (Ny8.same S9).go BX9 g10⟩
    have WP := (WP8.same S9).go BX9 g10
    have WZ := (WZ8.same S9).go BX9 g10
    have Nt := (Nt.same S9).go BX9 g10
    clear WP7 WZ7 WP8 WZ8 Nx7 Ny7 Nx8 Ny8 hp7 hp8 g5 g6 g8 S9 S7 g10
    walk_at "rd"
    refine q_Lat2 hl fun vf hvf => ?_
    obtain ⟨tf, Nf, Bf⟩ : ∃ tf, NQ H10 vf tf ∧ BQ 120 tf := by
      rcases hvf with e | e
      · exact ⟨t, e ▸ Nt, Bt8⟩
      · exact ⟨((0 : Int) : Rat), e ▸ NQ.int, BQ.int ((⟨by decide⟩ : Bt 1 0).mono (by decide)) (by decide)⟩
    clear hl hvf
    walk_at "rd"
    refine ⟨.ref p7, vf, (.ref pw), (.ref pg), x, y, tf, a, b, l, (0 - b), a, l, rfl, PV, Nf, WP, WZ, Bx.mono (by decide), By.mono (by decide), Bf.mono (by decide), fun H11 S11 => ?_⟩
    walk_at "rd"
    refine ⟨.ref p7, vf, (.ref pw), x, y, tf, a, b, l, rfl, PV.same S11, Nf.same S11, WP.same S11, Bx.mono (by decide), By.mono (by decide), Bf.mono (by decide), fun H12 S12 => ?_⟩
    have S12' := S11.trans S12
    obtain ⟨pp, vx', vy', hpp, hq, Nx', Ny'⟩ := PV.same S12'
    cases hpp
    walk_at "rd"
    intro p13 np13
    have S13 := Same.up (o := .tup [vf, vx']) np13
    have hq' := sqt_same hq S13
    have P13 : Pl K (upd H12 p13 (.tup [vf, vx'])) (.ref p13) tf x := ⟨p13, _, _, rfl, SqT.of upd_same, ((Nf.same S12').same S13), Nx'.same S13⟩
    walk_at "rd"
    refine ⟨.ref p13, vy', (.ref pg), (.ref pw), tf, x, y, (0 - b), a, l, a, b, l, rfl, P13, Ny'.same S13, (WZ.same S12').same S13, (WP.same S12').same S13, Bf.mono (by decide), Bx.mono (by decide), By.mono (by decide), fun H14 S14 => ?_⟩
    walk_at "rd"
    exact ⟨_, _, _, _, _, _, _, rfl, Go.same fr (GC.trans (Go.of ((S12'.trans S13).trans S14)))⟩
  · walk_at "rd"
    refine q_dec (fun e2 => ?_) (fun e2 => ?_)
    · walk_at "rd"
      intro p1 np1
      have nb1 := BX5.fresh np1
      have T1 := Same.up (o := .tup [.int 1, .int 0, .int 1]) np1
      have hp1 : upd H5 p1 (.tup [.int 1, .int 0, .int 1]) p1 = some (.tup [.int 1, .int 0, .int 1]) := upd_same
      generalize upd H5 p1 (.tup [.int 1, .int 0, .int 1]) = K1 at T1 hp1 ⊢
      have BK1 := BX5.same T1
      walk_at "rd"
      intro p2 np2
      have nb2 := BK1.fresh np2
      have T2 := Same.up (o := .tup [.int 0, .int 1, .int 1]) np2
      have hp2 : upd K1 p2 (.tup [.int 0, .int 1, .int 1]) p2 = some (.tup [.int 0, .int 1, .int 1]) := upd_same
      generalize upd K1 p2 (.tup [.int 0, .int 1, .int 1]) = K2 at T2 hp2 ⊢
      have BK2 := BK1.same T2
      walk_at "rd"
      intro p3 np3
      have nb3 := BK2.fresh np3
      have T3 := Same.up (o := .tup [.int (0 - 1), .int 0, .int 1]) np3
      have hp3 : upd K2 p3 (.tup [.int (0 - 1), .int 0, .int 1]) p3 = some (.tup [.int (0 - 1), .int 0, .int 1]) := upd_same
      generalize upd K2 p3 (.tup [.int (0 - 1), .int 0, .int 1]) = K3 at T3 hp3 ⊢
      have BK3 := BK2.same T3
      walk_at "rd"
      intro p4 np4
      have nb4 := BK3.fresh np4
      have T4 := Same.up (o := .lst [.ref p1, .ref p2, .ref p3]) np4
      walk_at "rd"
      refine ⟨bx, 3, _, rfl, BK3.same T4, by decide, (Bt.small (by decide) (by decide)).mono (by decide), by omega, fun d5 H5' d5a d5b g6 BXt => ?_⟩
      have hl := g6 _ _ upd_same nb4
      have q1 := g6 _ _ (T4 _ _ (T3 _ _ (T2 _ _ hp1))) nb1
      have q2 := g6 _ _ (T4 _ _ (T3 _ _ hp2)) nb2
      have q3 := g6 _ _ (T4 _ _ hp3) nb3
      have TT := ((T1.trans T2).trans T3).trans T4
      have GT := (GT.trans (Go.of TT)).trans g6
      have WZ := (WZ.same TT).go (BK3.same T4) g6
      refine q_Lat hl d5a d5b fun v hv => ?_
      obtain ⟨a', b', l', WP'⟩ : ∃ a' b' l', Way K H5' v a' b' l' := by
        rcases List.mem_cons.mp hv with e | hv
        · exact ⟨1, 0, 1, p1, e, SqT.of q1, by decide, by decide, by decide⟩
        rcases List.mem_cons.mp hv with e | hv
        · exact ⟨0, 1, 1, p2, e, SqT.of q2, by decide, by decide, by decide⟩
        rcases List.mem_cons.mp hv with e | hv
        · exact ⟨0 - 1, 0, 1, p3, e, SqT.of q3, by decide, by decide, by decide⟩
        · cases hv
      clear WP hl q1 q2 q3 hv
      have WP := WP'
      clear WP'
      walk_at "rd"
      refine ⟨bx, _, rfl, BXt, by omega, fun vx x H5 Nx Bx g5 BX5 => ?_⟩
      have GC := GT.trans g5
      walk_at "rd"
      refine ⟨bx, _, rfl, BX5, by omega, fun vy y H6 Ny By g6 BX6 => ?_⟩
      have GC := GC.trans g6
      walk_at "rd"
      intro p7 np7
      have S7 := Same.up (o := .tup [vx, vy]) np7
      have nb7 := BX6.fresh np7
      have hp7 : upd H6 p7 (.tup [vx, vy]) p7 = some (.tup [vx, vy]) := upd_same
      have BX7 := BX6.same S7
      have Nx7 := (Nx.go BX5 g6).same S7
      have Ny7 := Ny.same S7
      have WP7 := ((WP.go BXt g5).go BX5 g6).same S7
      have WZ7 := ((WZ.go BXt g5).go BX5 g6).same S7
      have GC := GC.trans (Go.of S7)
      generalize upd H6 p7 (.tup [vx, vy]) = H7 at S7 hp7 BX7 Nx7 Ny7 WP7 WZ7 GC ⊢
      clear WP WZ Nx Ny
      walk_at "rd"
      refine ⟨bx, _, rfl, BX7, by omega, fun vt t H8 Nt Bt8 g8 BX8 => ?_⟩
      have GC := GC.trans g8
      have WP8 := WP7.go BX7 g8
      have WZ8 := WZ7.go BX7 g8
      have Nx8 := Nx7.go BX7 g8
      have Ny8 := Ny7.go BX7 g8
      have hp8 := g8 _ _ hp7 nb7
      walk_at "rd"
      intro p9 np9
      have S9 := Same.up (o := .lst [vt, .int 0]) np9
      have nb9 := BX8.fresh np9
      have BX9 := BX8.same S9
      walk_at "rd"
      refine ⟨bx, 6, _, rfl, BX9, by decide, (Bt.small (by decide) (by decide)).mono (by decide), by omega, fun d10 H10 d10a d10b g10 BX10 => ?_⟩
      have hl := g10 _ _ upd_same nb9
      have GC := (GC.trans (Go.of S9)).trans g10
      have PV : Pl K H10 (.ref p7) x y := ⟨p7, vx, vy, rfl, SqT.of (g10 _ _ (S9 _ _ hp8) nb7), (Nx8.same S9).go BX9 g10, (Ny8.same S9).go BX9 g10⟩
      have WP := (WP8.same S9).go BX9 g10
      have WZ := (WZ8.same S9).go BX9 g10
      have Nt := (Nt.same S9).go BX9 g10
      clear WP7 WZ7 WP8 WZ8 Nx7 Ny7 Nx8 Ny8 hp7 hp8 g5 g6 g8 S9 S7 g10
      walk_at "rd"
      refine q_Lat2 hl fun vf hvf => ?_
      obtain ⟨tf, Nf, Bf⟩ : ∃ tf, NQ H10 vf tf ∧ BQ 120 tf := by
        rcases hvf with e | e
        · exact ⟨t, e ▸ Nt, Bt8⟩
        · exact ⟨((0 : Int) : Rat), e ▸ NQ.int, BQ.int ((⟨by decide⟩ : Bt 1 0).mono (by decide)) (by decide)⟩
      clear hl hvf
      walk_at "rd"
      refine ⟨.ref p7, vf, v, vz, x, y, tf, a', b', l', c, d, m, rfl, PV, Nf, WP, WZ, Bx.mono (by decide), By.mono (by decide), Bf.mono (by decide), fun H11 S11 => ?_⟩
      walk_at "rd"
      refine ⟨.ref p7, vf, v, x, y, tf, a', b', l', rfl, PV.same S11, Nf.same S11, WP.same S11, Bx.mono (by decide), By.mono (by decide), Bf.mono (by decide), fun H12 S12 => ?_⟩
      have S12' := S11.trans S12
      obtain ⟨pp, vx', vy', hpp, hq, Nx', Ny'⟩ := PV.same S12'
      cases hpp
      walk_at "rd"
      intro p13 np13
      have S13 := Same.up (o := .tup [vf, vx']) np13
      have hq' := sqt_same hq S13
      have P13 : Pl K (upd H12 p13 (.tup [vf, vx'])) (.ref p13) tf x := ⟨p13, _, _, rfl, SqT.of upd_same, ((Nf.same S12').same S13), Nx'.same S13⟩
      walk_at "rd"
      refine ⟨.ref p13, vy', vz, v, tf, x, y, c, d, m, a', b', l', rfl, P13, Ny'.same S13, (WZ.same S12').same S13, (WP.same S12').same S13, Bf.mono (by decide), Bx.mono (by decide), By.mono (by decide), fun H14 S14 => ?_⟩
      walk_at "rd"
      exact ⟨_, _, _, _, _, _, _, rfl, Go.same fr (GC.trans (Go.of ((S12'.trans S13).trans S14)))⟩
    · walk_at "rd"
      have BXt := BX5
      walk_at "rd"
      refine ⟨bx, _, rfl, BXt, by omega, fun vx x H5 Nx Bx g5 BX5 => ?_⟩
      have GC := GT.trans g5
      walk_at "rd"
      refine ⟨bx, _, rfl, BX5, by omega, fun vy y H6 Ny By g6 BX6 => ?_⟩
      have GC := GC.trans g6
      walk_at "rd"
      intro p7 np7
      have S7 := Same.up (o := .tup [vx, vy]) np7
      have nb7 := BX6.fresh np7
      have hp7 : upd H6 p7 (.tup [vx, vy]) p7 = some (.tup [vx, vy]) := upd_same
      have BX7 := BX6.same S7
      have Nx7 := (Nx.go BX5 g6).same S7
      have Ny7 := Ny.same S7
      have WP7 := ((WP.go BXt g5).go BX5 g6).same S7
      have WZ7 := ((WZ.go BXt g5).go BX5 g6).same S7
      have GC := GC.trans (Go.of S7)
      generalize upd H6 p7 (.tup [vx, vy]) = H7 at S7 hp7 BX7 Nx7 Ny7 WP7 WZ7 GC ⊢
      clear WP WZ Nx Ny
      walk_at "rd"
      refine ⟨bx, _, rfl, BX7, by omega, fun vt t H8 Nt Bt8 g8 BX8 => ?_⟩
      have GC := GC.trans g8
      have WP8 := WP7.go BX7 g8
      have WZ8 := WZ7.go BX7 g8
      have Nx8 := Nx7.go BX7 g8
      have Ny8 := Ny7.go BX7 g8
      have hp8 := g8 _ _ hp7 nb7
      walk_at "rd"
      intro p9 np9
      have S9 := Same.up (o := .lst [vt, .int 0]) np9
      have nb9 := BX8.fresh np9
      have BX9 := BX8.same S9
      walk_at "rd"
      refine ⟨bx, 6, _, rfl, BX9, by decide, (Bt.small (by decide) (by decide)).mono (by decide), by omega, fun d10 H10 d10a d10b g10 BX10 => ?_⟩
      have hl := g10 _ _ upd_same nb9
      have GC := (GC.trans (Go.of S9)).trans g10
      have PV : Pl K H10 (.ref p7) x y := ⟨p7, vx, vy, rfl, SqT.of (g10 _ _ (S9 _ _ hp8) nb7), (Nx8.same S9).go BX9 g10, (Ny8.same S9).go BX9 g10⟩
      have WP := (WP8.same S9).go BX9 g10
      have WZ := (WZ8.same S9).go BX9 g10
      have Nt := (Nt.same S9).go BX9 g10
      clear WP7 WZ7 WP8 WZ8 Nx7 Ny7 Nx8 Ny8 hp7 hp8 g5 g6 g8 S9 S7 g10
      walk_at "rd"
      refine q_Lat2 hl fun vf hvf => ?_
      obtain ⟨tf, Nf, Bf⟩ : ∃ tf, NQ H10 vf tf ∧ BQ 120 tf := by
        rcases hvf with e | e
        · exact ⟨t, e ▸ Nt, Bt8⟩
        · exact ⟨((0 : Int) : Rat), e ▸ NQ.int, BQ.int ((⟨by decide⟩ : Bt 1 0).mono (by decide)) (by decide)⟩
      clear hl hvf
      walk_at "rd"
      refine ⟨.ref p7, vf, vp, vz, x, y, tf, a, b, l, c, d, m, rfl, PV, Nf, WP, WZ, Bx.mono (by decide), By.mono (by decide), Bf.mono (by decide), fun H11 S11 => ?_⟩
      walk_at "rd"
      refine ⟨.ref p7, vf, vp, x, y, tf, a, b, l, rfl, PV.same S11, Nf.same S11, WP.same S11, Bx.mono (by decide), By.mono (by decide), Bf.mono (by decide), fun H12 S12 => ?_⟩
      have S12' := S11.trans S12
      obtain ⟨pp, vx', vy', hpp, hq, Nx', Ny'⟩ := PV.same S12'
      cases hpp
      walk_at "rd"
      intro p13 np13
      have S13 := Same.up (o := .tup [vf, vx']) np13
      have hq' := sqt_same hq S13
      have P13 : Pl K (upd H12 p13 (.tup [vf, vx'])) (.ref p13) tf x := ⟨p13, _, _, rfl, SqT.of upd_same, ((Nf.same S12').same S13), Nx'.same S13⟩
      walk_at "rd"
      refine ⟨.ref p13, vy', vz, vp, tf, x, y, c, d, m, a, b, l, rfl, P13, Ny'.same S13, (WZ.same S12').same S13, (WP.same S12').same S13, Bf.mono (by decide), Bx.mono (by decide), By.mono (by decide), fun H14 S14 => ?_⟩
      walk_at "rd"
      exact ⟨_, _, _, _, _, _, _, rfl, Go.same fr (GC.trans (Go.of ((S12'.trans S13).trans S14)))⟩
end
/-! what the top has written -/
theorem all_mk {l : PySem.W.OpenLaw} {w : World} {K : PySem.W.Frag} {h : Heap} {mg : Str → Option Value} {fa : Addr} (X : K.In h) (G : h.Ns mainGlobals mg) (hfa : mg "law" = some (.ref fa))
    {a_EAST : Addr}
    {f0 : Addr} {od0 an0 : Option Addr} {sl0 : Array (Option Value)} {oc0 dc0 pm0 cd0 ct0 : Value} {kV0 : Value}
    (a0 : PySem.W.nsIn K mainGlobals "is_int" = some (some (.ref f0))) (l0 : K.lookup f0 = some ⟨oc0, od0, .func (PySem.W.fnOf "is_int" "is_int" (defArgs s_is_int) (defBody s_is_int) (defScope s_is_int) .none kV0 dc0 pm0 an0 cd0 ct0), sl0⟩) (c0 : PySem.W.codeIn K cd0 "is_int" = true) (k0 : PySem.W.keepIn K (.ref f0) = true)
    {f1 : Addr} {od1 an1 : Option Addr} {sl1 : Array (Option Value)} {oc1 dc1 pm1 cd1 ct1 : Value} {kV1 : Value}
    (a1 : PySem.W.nsIn K mainGlobals "is_whole" = some (some (.ref f1))) (l1 : K.lookup f1 = some ⟨oc1, od1, .func (PySem.W.fnOf "is_whole" "is_whole" (defArgs s_is_whole) (defBody s_is_whole) (defScope s_is_whole) .none kV1 dc1 pm1 an1 cd1 ct1), sl1⟩) (c1 : PySem.W.codeIn K cd1 "is_whole" = true) (k1 : PySem.W.keepIn K (.ref f1) = true)
    {f2 : Addr} {od2 an2 : Option Addr} {sl2 : Array (Option Value)} {oc2 dc2 pm2 cd2 ct2 : Value} {kV2 : Value}
    (a2 : PySem.W.nsIn K mainGlobals "is_number" = some (some (.ref f2))) (l2 : K.lookup f2 = some ⟨oc2, od2, .func (PySem.W.fnOf "is_number" "is_number" (defArgs s_is_number) (defBody s_is_number) (defScope s_is_number) .none kV2 dc2 pm2 an2 cd2 ct2), sl2⟩) (c2 : PySem.W.codeIn K cd2 "is_number" = true) (k2 : PySem.W.keepIn K (.ref f2) = true)
    {f3 : Addr} {od3 an3 : Option Addr} {sl3 : Array (Option Value)} {oc3 dc3 pm3 cd3 ct3 : Value} {kV3 : Value}
    (a3 : PySem.W.nsIn K mainGlobals "need_number" = some (some (.ref f3))) (l3 : K.lookup f3 = some ⟨oc3, od3, .func (PySem.W.fnOf "need_number" "need_number" (defArgs s_need_number) (defBody s_need_number) (defScope s_need_number) .none kV3 dc3 pm3 an3 cd3 ct3), sl3⟩) (c3 : PySem.W.codeIn K cd3 "need_number" = true) (k3 : PySem.W.keepIn K (.ref f3) = true)
    {f4 : Addr} {od4 an4 : Option Addr} {sl4 : Array (Option Value)} {oc4 dc4 pm4 cd4 ct4 : Value} {kV4 : Value}
    (a4 : PySem.W.nsIn K mainGlobals "pair_of" = some (some (.ref f4))) (l4 : K.lookup f4 = some ⟨oc4, od4, .func (PySem.W.fnOf "pair_of" "pair_of" (defArgs s_pair_of) (defBody s_pair_of) (defScope s_pair_of) .none kV4 dc4 pm4 an4 cd4 ct4), sl4⟩) (c4 : PySem.W.codeIn K cd4 "pair_of" = true) (k4 : PySem.W.keepIn K (.ref f4) = true)
    {f5 : Addr} {od5 an5 : Option Addr} {sl5 : Array (Option Value)} {oc5 dc5 pm5 cd5 ct5 : Value} {kV5 : Value}
    (a5 : PySem.W.nsIn K mainGlobals "lowest" = some (some (.ref f5))) (l5 : K.lookup f5 = some ⟨oc5, od5, .func (PySem.W.fnOf "lowest" "lowest" (defArgs s_lowest) (defBody s_lowest) (defScope s_lowest) .none kV5 dc5 pm5 an5 cd5 ct5), sl5⟩) (c5 : PySem.W.codeIn K cd5 "lowest" = true) (k5 : PySem.W.keepIn K (.ref f5) = true)
    {f6 : Addr} {od6 an6 : Option Addr} {sl6 : Array (Option Value)} {oc6 dc6 pm6 cd6 ct6 : Value} {kV6 : Value}
    (a6 : PySem.W.nsIn K mainGlobals "_added" = some (some (.ref f6))) (l6 : K.lookup f6 = some ⟨oc6, od6, .func (PySem.W.fnOf "_added" "_added" (defArgs s__added) (defBody s__added) (defScope s__added) .none kV6 dc6 pm6 an6 cd6 ct6), sl6⟩) (c6 : PySem.W.codeIn K cd6 "_added" = true) (k6 : PySem.W.keepIn K (.ref f6) = true)
    {f7 : Addr} {od7 an7 : Option Addr} {sl7 : Array (Option Value)} {oc7 dc7 pm7 cd7 ct7 : Value} {kV7 : Value}
    (a7 : PySem.W.nsIn K mainGlobals "plus" = some (some (.ref f7))) (l7 : K.lookup f7 = some ⟨oc7, od7, .func (PySem.W.fnOf "plus" "plus" (defArgs s_plus) (defBody s_plus) (defScope s_plus) .none kV7 dc7 pm7 an7 cd7 ct7), sl7⟩) (c7 : PySem.W.codeIn K cd7 "plus" = true) (k7 : PySem.W.keepIn K (.ref f7) = true)
    {f8 : Addr} {od8 an8 : Option Addr} {sl8 : Array (Option Value)} {oc8 dc8 pm8 cd8 ct8 : Value} {kV8 : Value}
    (a8 : PySem.W.nsIn K mainGlobals "times" = some (some (.ref f8))) (l8 : K.lookup f8 = some ⟨oc8, od8, .func (PySem.W.fnOf "times" "times" (defArgs s_times) (defBody s_times) (defScope s_times) .none kV8 dc8 pm8 an8 cd8 ct8), sl8⟩) (c8 : PySem.W.codeIn K cd8 "times" = true) (k8 : PySem.W.keepIn K (.ref f8) = true)
    {f9 : Addr} {od9 an9 : Option Addr} {sl9 : Array (Option Value)} {oc9 dc9 pm9 cd9 ct9 : Value} {kV9 : Value}
    (a9 : PySem.W.nsIn K mainGlobals "over" = some (some (.ref f9))) (l9 : K.lookup f9 = some ⟨oc9, od9, .func (PySem.W.fnOf "over" "over" (defArgs s_over) (defBody s_over) (defScope s_over) .none kV9 dc9 pm9 an9 cd9 ct9), sl9⟩) (c9 : PySem.W.codeIn K cd9 "over" = true) (k9 : PySem.W.keepIn K (.ref f9) = true)
    {f10 : Addr} {od10 an10 : Option Addr} {sl10 : Array (Option Value)} {oc10 dc10 pm10 cd10 ct10 : Value} {kV10 : Value}
    (a10 : PySem.W.nsIn K mainGlobals "is_place" = some (some (.ref f10))) (l10 : K.lookup f10 = some ⟨oc10, od10, .func (PySem.W.fnOf "is_place" "is_place" (defArgs s_is_place) (defBody s_is_place) (defScope s_is_place) .none kV10 dc10 pm10 an10 cd10 ct10), sl10⟩) (c10 : PySem.W.codeIn K cd10 "is_place" = true) (k10 : PySem.W.keepIn K (.ref f10) = true)
    {f11 : Addr} {od11 an11 : Option Addr} {sl11 : Array (Option Value)} {oc11 dc11 pm11 cd11 ct11 : Value} {kV11 : Value}
    (a11 : PySem.W.nsIn K mainGlobals "need_place" = some (some (.ref f11))) (l11 : K.lookup f11 = some ⟨oc11, od11, .func (PySem.W.fnOf "need_place" "need_place" (defArgs s_need_place) (defBody s_need_place) (defScope s_need_place) .none kV11 dc11 pm11 an11 cd11 ct11), sl11⟩) (c11 : PySem.W.codeIn K cd11 "need_place" = true) (k11 : PySem.W.keepIn K (.ref f11) = true)
    {f12 : Addr} {od12 an12 : Option Addr} {sl12 : Array (Option Value)} {oc12 dc12 pm12 cd12 ct12 : Value} {kV12 : Value}
    (a12 : PySem.W.nsIn K mainGlobals "is_way" = some (some (.ref f12))) (l12 : K.lookup f12 = some ⟨oc12, od12, .func (PySem.W.fnOf "is_way" "is_way" (defArgs s_is_way) (defBody s_is_way) (defScope s_is_way) .none kV12 dc12 pm12 an12 cd12 ct12), sl12⟩) (c12 : PySem.W.codeIn K cd12 "is_way" = true) (k12 : PySem.W.keepIn K (.ref f12) = true)
    {f13 : Addr} {od13 an13 : Option Addr} {sl13 : Array (Option Value)} {oc13 dc13 pm13 cd13 ct13 : Value} {kV13 : Value}
    (a13 : PySem.W.nsIn K mainGlobals "need_way" = some (some (.ref f13))) (l13 : K.lookup f13 = some ⟨oc13, od13, .func (PySem.W.fnOf "need_way" "need_way" (defArgs s_need_way) (defBody s_need_way) (defScope s_need_way) .none kV13 dc13 pm13 an13 cd13 ct13), sl13⟩) (c13 : PySem.W.codeIn K cd13 "need_way" = true) (k13 : PySem.W.keepIn K (.ref f13) = true)
    {f14 : Addr} {od14 an14 : Option Addr} {sl14 : Array (Option Value)} {oc14 dc14 pm14 cd14 ct14 : Value}
    {D14 : Addr}
    (a14 : PySem.W.nsIn K mainGlobals "slide" = some (some (.ref f14))) (l14 : K.lookup f14 = some ⟨oc14, od14, .func (PySem.W.fnOf "slide" "slide" (defArgs s_slide) (defBody s_slide) (defScope s_slide) .none (.ref D14) dc14 pm14 an14 cd14 ct14), sl14⟩) (c14 : PySem.W.codeIn K cd14 "slide" = true) (k14 : PySem.W.keepIn K (.ref f14) = true)
    (q14_way : PySem.W.nsIn K D14 "way" = some (some (.ref a_EAST)))
    {f15 : Addr} {od15 an15 : Option Addr} {sl15 : Array (Option Value)} {oc15 dc15 pm15 cd15 ct15 : Value}
    {D15 : Addr}
    (a15 : PySem.W.nsIn K mainGlobals "moved" = some (some (.ref f15))) (l15 : K.lookup f15 = some ⟨oc15, od15, .func (PySem.W.fnOf "moved" "moved" (defArgs s_moved) (defBody s_moved) (defScope s_moved) .none (.ref D15) dc15 pm15 an15 cd15 ct15), sl15⟩) (c15 : PySem.W.codeIn K cd15 "moved" = true) (k15 : PySem.W.keepIn K (.ref f15) = true)
    (q15_move : PySem.W.nsIn K D15 "move" = some (some (.ref a_EAST)))
    (q15_along : PySem.W.nsIn K D15 "along" = some (some (.ref a_EAST)))
    {f16 : Addr} {od16 an16 : Option Addr} {sl16 : Array (Option Value)} {oc16 dc16 pm16 cd16 ct16 : Value} {kV16 : Value}
    (a16 : PySem.W.nsIn K mainGlobals "_law_cell" = some (some (.ref f16))) (l16 : K.lookup f16 = some ⟨oc16, od16, .func (PySem.W.fnOf "_law_cell" "_law_cell" (defArgs s__law_cell) (defBody s__law_cell) (defScope s__law_cell) .none kV16 dc16 pm16 an16 cd16 ct16), sl16⟩) (c16 : PySem.W.codeIn K cd16 "_law_cell" = true) (k16 : PySem.W.keepIn K (.ref f16) = true)
    {f17 : Addr} {od17 an17 : Option Addr} {sl17 : Array (Option Value)} {oc17 dc17 pm17 cd17 ct17 : Value} {kV17 : Value}
    (a17 : PySem.W.nsIn K mainGlobals "_law_box" = some (some (.ref f17))) (l17 : K.lookup f17 = some ⟨oc17, od17, .func (PySem.W.fnOf "_law_box" "_law_box" (defArgs s__law_box) (defBody s__law_box) (defScope s__law_box) .none kV17 dc17 pm17 an17 cd17 ct17), sl17⟩) (c17 : PySem.W.codeIn K cd17 "_law_box" = true) (k17 : PySem.W.keepIn K (.ref f17) = true)
    {f18 : Addr} {od18 an18 : Option Addr} {sl18 : Array (Option Value)} {oc18 dc18 pm18 cd18 ct18 : Value} {kV18 : Value}
    (a18 : PySem.W.nsIn K mainGlobals "_law_take" = some (some (.ref f18))) (l18 : K.lookup f18 = some ⟨oc18, od18, .func (PySem.W.fnOf "_law_take" "_law_take" (defArgs s__law_take) (defBody s__law_take) (defScope s__law_take) .none kV18 dc18 pm18 an18 cd18 ct18), sl18⟩) (c18 : PySem.W.codeIn K cd18 "_law_take" = true) (k18 : PySem.W.keepIn K (.ref f18) = true)
    {f19 : Addr} {od19 an19 : Option Addr} {sl19 : Array (Option Value)} {oc19 dc19 pm19 cd19 ct19 : Value} {kV19 : Value}
    (a19 : PySem.W.nsIn K mainGlobals "_law_far" = some (some (.ref f19))) (l19 : K.lookup f19 = some ⟨oc19, od19, .func (PySem.W.fnOf "_law_far" "_law_far" (defArgs s__law_far) (defBody s__law_far) (defScope s__law_far) .none kV19 dc19 pm19 an19 cd19 ct19), sl19⟩) (c19 : PySem.W.codeIn K cd19 "_law_far" = true) (k19 : PySem.W.keepIn K (.ref f19) = true)
    {f20 : Addr} {od20 an20 : Option Addr} {sl20 : Array (Option Value)} {oc20 dc20 pm20 cd20 ct20 : Value} {kV20 : Value}
    (a20 : PySem.W.nsIn K mainGlobals "_law_number" = some (some (.ref f20))) (l20 : K.lookup f20 = some ⟨oc20, od20, .func (PySem.W.fnOf "_law_number" "_law_number" (defArgs s__law_number) (defBody s__law_number) (defScope s__law_number) .none kV20 dc20 pm20 an20 cd20 ct20), sl20⟩) (c20 : PySem.W.codeIn K cd20 "_law_number" = true) (k20 : PySem.W.keepIn K (.ref f20) = true)
    {f21 : Addr} {od21 an21 : Option Addr} {sl21 : Array (Option Value)} {oc21 dc21 pm21 cd21 ct21 : Value} {kV21 : Value}
    (a21 : PySem.W.nsIn K mainGlobals "_law_pair" = some (some (.ref f21))) (l21 : K.lookup f21 = some ⟨oc21, od21, .func (PySem.W.fnOf "_law_pair" "_law_pair" (defArgs s__law_pair) (defBody s__law_pair) (defScope s__law_pair) .none kV21 dc21 pm21 an21 cd21 ct21), sl21⟩) (c21 : PySem.W.codeIn K cd21 "_law_pair" = true) (k21 : PySem.W.keepIn K (.ref f21) = true)
    {f22 : Addr} {od22 an22 : Option Addr} {sl22 : Array (Option Value)} {oc22 dc22 pm22 cd22 ct22 : Value} {kV22 : Value}
    (a22 : PySem.W.nsIn K mainGlobals "_law_is" = some (some (.ref f22))) (l22 : K.lookup f22 = some ⟨oc22, od22, .func (PySem.W.fnOf "_law_is" "_law_is" (defArgs s__law_is) (defBody s__law_is) (defScope s__law_is) .none kV22 dc22 pm22 an22 cd22 ct22), sl22⟩) (c22 : PySem.W.codeIn K cd22 "_law_is" = true) (k22 : PySem.W.keepIn K (.ref f22) = true)
    {f23 : Addr} {od23 an23 : Option Addr} {sl23 : Array (Option Value)} {oc23 dc23 pm23 cd23 ct23 : Value} {kV23 : Value}
    (a23 : PySem.W.nsIn K mainGlobals "_law_drawn" = some (some (.ref f23))) (l23 : K.lookup f23 = some ⟨oc23, od23, .func (PySem.W.fnOf "_law_drawn" "_law_drawn" (defArgs s__law_drawn) (defBody s__law_drawn) (defScope s__law_drawn) .none kV23 dc23 pm23 an23 cd23 ct23), sl23⟩) (c23 : PySem.W.codeIn K cd23 "_law_drawn" = true) (k23 : PySem.W.keepIn K (.ref f23) = true)
    {f24 : Addr} {od24 an24 : Option Addr} {sl24 : Array (Option Value)} {oc24 dc24 pm24 cd24 ct24 : Value} {kV24 : Value}
    (a24 : PySem.W.nsIn K mainGlobals "_law_sum" = some (some (.ref f24))) (l24 : K.lookup f24 = some ⟨oc24, od24, .func (PySem.W.fnOf "_law_sum" "_law_sum" (defArgs s__law_sum) (defBody s__law_sum) (defScope s__law_sum) .none kV24 dc24 pm24 an24 cd24 ct24), sl24⟩) (c24 : PySem.W.codeIn K cd24 "_law_sum" = true) (k24 : PySem.W.keepIn K (.ref f24) = true)
    {f25 : Addr} {od25 an25 : Option Addr} {sl25 : Array (Option Value)} {oc25 dc25 pm25 cd25 ct25 : Value} {kV25 : Value}
    (a25 : PySem.W.nsIn K mainGlobals "_law_product" = some (some (.ref f25))) (l25 : K.lookup f25 = some ⟨oc25, od25, .func (PySem.W.fnOf "_law_product" "_law_product" (defArgs s__law_product) (defBody s__law_product) (defScope s__law_product) .none kV25 dc25 pm25 an25 cd25 ct25), sl25⟩) (c25 : PySem.W.codeIn K cd25 "_law_product" = true) (k25 : PySem.W.keepIn K (.ref f25) = true)
    {f26 : Addr} {od26 an26 : Option Addr} {sl26 : Array (Option Value)} {oc26 dc26 pm26 cd26 ct26 : Value} {kV26 : Value}
    (a26 : PySem.W.nsIn K mainGlobals "_law_slope" = some (some (.ref f26))) (l26 : K.lookup f26 = some ⟨oc26, od26, .func (PySem.W.fnOf "_law_slope" "_law_slope" (defArgs s__law_slope) (defBody s__law_slope) (defScope s__law_slope) .none kV26 dc26 pm26 an26 cd26 ct26), sl26⟩) (c26 : PySem.W.codeIn K cd26 "_law_slope" = true) (k26 : PySem.W.keepIn K (.ref f26) = true)
    {f27 : Addr} {od27 an27 : Option Addr} {sl27 : Array (Option Value)} {oc27 dc27 pm27 cd27 ct27 : Value} {kV27 : Value}
    (a27 : PySem.W.nsIn K mainGlobals "_law_measure" = some (some (.ref f27))) (l27 : K.lookup f27 = some ⟨oc27, od27, .func (PySem.W.fnOf "_law_measure" "_law_measure" (defArgs s__law_measure) (defBody s__law_measure) (defScope s__law_measure) .none kV27 dc27 pm27 an27 cd27 ct27), sl27⟩) (c27 : PySem.W.codeIn K cd27 "_law_measure" = true) (k27 : PySem.W.keepIn K (.ref f27) = true)
    {f28 : Addr} {od28 an28 : Option Addr} {sl28 : Array (Option Value)} {oc28 dc28 pm28 cd28 ct28 : Value} {kV28 : Value}
    (a28 : PySem.W.nsIn K mainGlobals "_law_plain_place" = some (some (.ref f28))) (l28 : K.lookup f28 = some ⟨oc28, od28, .func (PySem.W.fnOf "_law_plain_place" "_law_plain_place" (defArgs s__law_plain_place) (defBody s__law_plain_place) (defScope s__law_plain_place) .none kV28 dc28 pm28 an28 cd28 ct28), sl28⟩) (c28 : PySem.W.codeIn K cd28 "_law_plain_place" = true) (k28 : PySem.W.keepIn K (.ref f28) = true)
    {f29 : Addr} {od29 an29 : Option Addr} {sl29 : Array (Option Value)} {oc29 dc29 pm29 cd29 ct29 : Value} {kV29 : Value}
    (a29 : PySem.W.nsIn K mainGlobals "_law_moved_right" = some (some (.ref f29))) (l29 : K.lookup f29 = some ⟨oc29, od29, .func (PySem.W.fnOf "_law_moved_right" "_law_moved_right" (defArgs s__law_moved_right) (defBody s__law_moved_right) (defScope s__law_moved_right) .none kV29 dc29 pm29 an29 cd29 ct29), sl29⟩) (c29 : PySem.W.codeIn K cd29 "_law_moved_right" = true) (k29 : PySem.W.keepIn K (.ref f29) = true)
    {f30 : Addr} {od30 an30 : Option Addr} {sl30 : Array (Option Value)} {oc30 dc30 pm30 cd30 ct30 : Value} {kV30 : Value}
    (a30 : PySem.W.nsIn K mainGlobals "_law_refused" = some (some (.ref f30))) (l30 : K.lookup f30 = some ⟨oc30, od30, .func (PySem.W.fnOf "_law_refused" "_law_refused" (defArgs s__law_refused) (defBody s__law_refused) (defScope s__law_refused) .none kV30 dc30 pm30 an30 cd30 ct30), sl30⟩) (c30 : PySem.W.codeIn K cd30 "_law_refused" = true) (k30 : PySem.W.keepIn K (.ref f30) = true)
    {f31 : Addr} {od31 an31 : Option Addr} {sl31 : Array (Option Value)} {oc31 dc31 pm31 cd31 ct31 : Value} {kV31 : Value}
    (a31 : PySem.W.nsIn K mainGlobals "_law_right" = some (some (.ref f31))) (l31 : K.lookup f31 = some ⟨oc31, od31, .func (PySem.W.fnOf "_law_right" "_law_right" (defArgs s__law_right) (defBody s__law_right) (defScope s__law_right) .none kV31 dc31 pm31 an31 cd31 ct31), sl31⟩) (c31 : PySem.W.codeIn K cd31 "_law_right" = true) (k31 : PySem.W.keepIn K (.ref f31) = true)
    {f32 : Addr} {od32 an32 : Option Addr} {sl32 : Array (Option Value)} {oc32 dc32 pm32 cd32 ct32 : Value} {kV32 : Value}
    (a32 : PySem.W.nsIn K mainGlobals "_law_left_out" = some (some (.ref f32))) (l32 : K.lookup f32 = some ⟨oc32, od32, .func (PySem.W.fnOf "_law_left_out" "_law_left_out" (defArgs s__law_left_out) (defBody s__law_left_out) (defScope s__law_left_out) .none kV32 dc32 pm32 an32 cd32 ct32), sl32⟩) (c32 : PySem.W.codeIn K cd32 "_law_left_out" = true) (k32 : PySem.W.keepIn K (.ref f32) = true)
    {f33 : Addr} {od33 an33 : Option Addr} {sl33 : Array (Option Value)} {oc33 dc33 pm33 cd33 ct33 : Value} {kV33 : Value}
    (a33 : PySem.W.nsIn K mainGlobals "law" = some (some (.ref f33))) (l33 : K.lookup f33 = some ⟨oc33, od33, .func (PySem.W.fnOf "law" "law" (defArgs s_law) (defBody s_law) (defScope s_law) .none kV33 dc33 pm33 an33 cd33 ct33), sl33⟩) (c33 : PySem.W.codeIn K cd33 "law" = true) (k33 : PySem.W.keepIn K (.ref f33) = true)
    (z_isinstance : PySem.W.nsIn K mainGlobals "isinstance" = some none)
    (z_bool : PySem.W.nsIn K mainGlobals "bool" = some none)
    (z_int : PySem.W.nsIn K mainGlobals "int" = some none)
    (z_gcd : PySem.W.nsIn K mainGlobals "gcd" = some (some (.builtin "math.gcd")))
    (z_len : PySem.W.nsIn K mainGlobals "len" = some none)
    (z_tuple : PySem.W.nsIn K mainGlobals "tuple" = some none)
    (z_all : PySem.W.nsIn K mainGlobals "all" = some none)
    {tz_LONGEST : Tok} (z_LONGEST : PySem.W.nsIn K mainGlobals "LONGEST" = some (some (.int 1000 tz_LONGEST)))
    (z_max : PySem.W.nsIn K mainGlobals "max" = some none)
    (z_range : PySem.W.nsIn K mainGlobals "range" = some none)
    (z_abs : PySem.W.nsIn K mainGlobals "abs" = some none)
    (z_min : PySem.W.nsIn K mainGlobals "min" = some none)
    {nm_NoWay q_NoWay : Str} {C_NoWay N_NoWay fI_NoWay : Addr} {bs_NoWay : List Value} {bm_NoWay : List Value} {sn_NoWay : List Str} {sub_NoWay : List Value} {ab_NoWay : Bool} {col_NoWay : Option Bool} {dd_NoWay : Option Addr} {m0_NoWay m1_NoWay m2_NoWay m3_NoWay m5_NoWay : Option Value}
    (aC_NoWay : PySem.W.nsIn K mainGlobals "NoWay" = some (some (.ref C_NoWay))) (xL_NoWay : K.lookup C_NoWay = some (excClassObj nm_NoWay q_NoWay C_NoWay N_NoWay bs_NoWay bm_NoWay true sn_NoWay sub_NoWay ab_NoWay col_NoWay dd_NoWay m0_NoWay m1_NoWay m2_NoWay m3_NoWay m5_NoWay "ValueError.__new__")) (bV_NoWay : PySem.HandSPX.refsVE bm_NoWay = true)
    (sa_NoWay : PySem.W.findIn K (.ref C_NoWay) "__setattr__" = some (some (.builtin "object.__setattr__"))) (ga_NoWay : PySem.W.findIn K (.ref C_NoWay) "__getattribute__" = some (some (.builtin "BaseException.__getattribute__"))) (gg_NoWay : PySem.W.findIn K (.ref C_NoWay) "__getattr__" = some none) (nF_NoWay : PySem.W.findIn K (.ref C_NoWay) "found" = some none)
    (iN_NoWay : PySem.W.findIn K (.ref C_NoWay) "__init__" = some (some (.ref fI_NoWay))) (tI_NoWay : PySem.W.typeIn K (.ref fI_NoWay) = some (.type "function"))
    (kC_NoWay : PySem.W.keepIn K (.ref C_NoWay) = true) (eC_NoWay : PySem.W.subIn K (.ref C_NoWay) (.type "BaseException") = some true) (tC_NoWay : PySem.W.typeIn K (.ref C_NoWay) = some (.type "type")) (hC_NoWay : PySem.W.hasDictIn K C_NoWay = true) (iC_NoWay : PySem.W.isClsIn K C_NoWay = true) (sC_NoWay : PySem.W.subIn K (.ref C_NoWay) (.ref C_NoWay) = some true)
    {od_NoWay an_NoWay : Option Addr} {sl_NoWay : Array (Option Value)} {oc_NoWay kV_NoWay dc_NoWay pm_NoWay cd_NoWay ct_NoWay : Value} (lI_NoWay : K.lookup fI_NoWay = some ⟨oc_NoWay, od_NoWay, .func (PySem.W.fnOf "__init__" "NoWay.__init__" (defArgs (inClass (topS 5) 0)) (defBody (inClass (topS 5) 0)) (defScope (inClass (topS 5) 0)) .none kV_NoWay dc_NoWay pm_NoWay an_NoWay cd_NoWay ct_NoWay), sl_NoWay⟩) (cI_NoWay : PySem.W.codeIn K cd_NoWay "NoWay.__init__" = true) (kI_NoWay : PySem.W.keepIn K (.ref fI_NoWay) = true)
    {t1_EAST t2_EAST t3_EAST : Tok} {n_EAST : Nat} {od_EAST : Option Addr} {sl_EAST : Array (Option Value)} (L_EAST : K.lookup a_EAST = some ⟨.type "tuple", od_EAST, .seq #[.int 1 t1_EAST, .int 0 t2_EAST, .int 1 t3_EAST] n_EAST, sl_EAST⟩)
    : ∃ fd : FuncData, (∀ (s : Shared) (v : Value), BindsTo s fd ⟨[v], []⟩ [("_law_script", v)]) ∧ ∀ base : Heap, K.In base → base.Ns mainGlobals mg → FnOk l.prog w K mg base CX0 9 fa fd ["_law_script"] (spN 1 (spLaw K)) := by
  have e := hfa.symm.trans (PySem.W.mg_of X G a33)
  cases e
  refine ⟨PySem.W.fnOf "law" "law" (defArgs s_law) (defBody s_law) (defScope s_law) .none kV33 dc33 pm33 an33 cd33 ct33, fun s v => .of_eq rfl, fun base _ _ => ?_⟩
  have B : Bl mg := ⟨PySem.W.mg_none_of X G z_isinstance, PySem.W.mg_none_of X G z_bool, PySem.W.mg_none_of X G z_int, PySem.W.mg_of X G z_gcd, PySem.W.mg_none_of X G z_len, PySem.W.mg_none_of X G z_tuple, PySem.W.mg_none_of X G z_all, ⟨_, PySem.W.mg_of X G z_LONGEST⟩, PySem.W.mg_none_of X G z_max, PySem.W.mg_none_of X G z_range, PySem.W.mg_none_of X G z_abs, PySem.W.mg_none_of X G z_min⟩
  have e_NoWay : ErrC K mg "NoWay" C_NoWay fI_NoWay := ⟨PySem.W.mg_of X G aC_NoWay, ⟨⟨_, _, _, _, _, _, _, _, _, _, _, _, _, _, _, xL_NoWay, bV_NoWay⟩, sa_NoWay, eC_NoWay, tC_NoWay, kC_NoWay⟩, iN_NoWay, tI_NoWay, ⟨ga_NoWay, gg_NoWay, eC_NoWay, hC_NoWay⟩, nF_NoWay, exm_own eC_NoWay iC_NoWay tC_NoWay sC_NoWay⟩
  have FI_NoWay := fun_mk (st := inClass (topS 5) 0) lI_NoWay cI_NoWay kI_NoWay
  have n_NoWay := fn_init_NoWay (P := l.prog) (w := w) (base := base) (mg := mg) FI_NoWay e_NoWay.ox nF_NoWay
  have b_NoWay := FI_NoWay.binds (ps := ["self", "found"]) (fun _ _ _ _ _ _ us hl => match us, hl with | [_, _], _ => rfl)
  have w_EAST : ∀ H, Way K H (.ref a_EAST) 1 0 1 := fun H => ⟨a_EAST, rfl, .inr ⟨_, _, _, L_EAST, rfl, rfl, (by show (3 : Nat) ≤ sizeLine; decide), .cons ⟨_, rfl⟩ (.cons ⟨_, rfl⟩ (.cons ⟨_, rfl⟩ .nil))⟩, by decide, by decide, by decide⟩
  have g0 := PySem.W.mg_of X G a0
  have F0 := fun_mk (st := s_is_int) l0 c0 k0
  have g1 := PySem.W.mg_of X G a1
  have F1 := fun_mk (st := s_is_whole) l1 c1 k1
  have g2 := PySem.W.mg_of X G a2
  have F2 := fun_mk (st := s_is_number) l2 c2 k2
  have g3 := PySem.W.mg_of X G a3
  have F3 := fun_mk (st := s_need_number) l3 c3 k3
  have g4 := PySem.W.mg_of X G a4
  have F4 := fun_mk (st := s_pair_of) l4 c4 k4
  have g5 := PySem.W.mg_of X G a5
  have F5 := fun_mk (st := s_lowest) l5 c5 k5
  have g6 := PySem.W.mg_of X G a6
  have F6 := fun_mk (st := s__added) l6 c6 k6
  have g7 := PySem.W.mg_of X G a7
  have F7 := fun_mk (st := s_plus) l7 c7 k7
  have g8 := PySem.W.mg_of X G a8
  have F8 := fun_mk (st := s_times) l8 c8 k8
  have g9 := PySem.W.mg_of X G a9
  have F9 := fun_mk (st := s_over) l9 c9 k9
  have g10 := PySem.W.mg_of X G a10
  have F10 := fun_mk (st := s_is_place) l10 c10 k10
  have g11 := PySem.W.mg_of X G a11
  have F11 := fun_mk (st := s_need_place) l11 c11 k11
  have g12 := PySem.W.mg_of X G a12
  have F12 := fun_mk (st := s_is_way) l12 c12 k12
  have g13 := PySem.W.mg_of X G a13
  have F13 := fun_mk (st := s_need_way) l13 c13 k13
  have g14 := PySem.W.mg_of X G a14
  have F14 : FunD K "slide" "slide" (defArgs s_slide) (defBody s_slide) (defScope s_slide) [] [("way", V.ref a_EAST)] f14 _ := ⟨⟨_, _, _, _, _, _, _, _, _, _, rfl, l14, c14, .inl ⟨rfl, rfl⟩, .inr ⟨D14, rfl, fun q hq => by
      simp only [List.mem_cons, List.not_mem_nil, or_false] at hq
      subst hq
      exact ⟨_, q14_way, rfl⟩⟩⟩, k14⟩
  have g15 := PySem.W.mg_of X G a15
  have F15 : FunD K "moved" "moved" (defArgs s_moved) (defBody s_moved) (defScope s_moved) [] [("move", V.ref a_EAST), ("along", V.ref a_EAST)] f15 _ := ⟨⟨_, _, _, _, _, _, _, _, _, _, rfl, l15, c15, .inl ⟨rfl, rfl⟩, .inr ⟨D15, rfl, fun q hq => by
      simp only [List.mem_cons, List.not_mem_nil, or_false] at hq
      rcases hq with rfl | rfl
      · exact ⟨_, q15_move, rfl⟩
      · exact ⟨_, q15_along, rfl⟩⟩⟩, k15⟩
  have g16 := PySem.W.mg_of X G a16
  have F16 := fun_mk (st := s__law_cell) l16 c16 k16
  have g17 := PySem.W.mg_of X G a17
  have F17 := fun_mk (st := s__law_box) l17 c17 k17
  have g18 := PySem.W.mg_of X G a18
  have F18 := fun_mk (st := s__law_take) l18 c18 k18
  have g19 := PySem.W.mg_of X G a19
  have F19 := fun_mk (st := s__law_far) l19 c19 k19
  have g20 := PySem.W.mg_of X G a20
  have F20 := fun_mk (st := s__law_number) l20 c20 k20
  have g21 := PySem.W.mg_of X G a21
  have F21 := fun_mk (st := s__law_pair) l21 c21 k21
  have g22 := PySem.W.mg_of X G a22
  have F22 := fun_mk (st := s__law_is) l22 c22 k22
  have g23 := PySem.W.mg_of X G a23
  have F23 := fun_mk (st := s__law_drawn) l23 c23 k23
  have g24 := PySem.W.mg_of X G a24
  have F24 := fun_mk (st := s__law_sum) l24 c24 k24
  have g25 := PySem.W.mg_of X G a25
  have F25 := fun_mk (st := s__law_product) l25 c25 k25
  have g26 := PySem.W.mg_of X G a26
  have F26 := fun_mk (st := s__law_slope) l26 c26 k26
  have g27 := PySem.W.mg_of X G a27
  have F27 := fun_mk (st := s__law_measure) l27 c27 k27
  have g28 := PySem.W.mg_of X G a28
  have F28 := fun_mk (st := s__law_plain_place) l28 c28 k28
  have g29 := PySem.W.mg_of X G a29
  have F29 := fun_mk (st := s__law_moved_right) l29 c29 k29
  have g30 := PySem.W.mg_of X G a30
  have F30 := fun_mk (st := s__law_refused) l30 c30 k30
  have g31 := PySem.W.mg_of X G a31
  have F31 := fun_mk (st := s__law_right) l31 c31 k31
  have g32 := PySem.W.mg_of X G a32
  have F32 := fun_mk (st := s__law_left_out) l32 c32 k32
  have g33 := PySem.W.mg_of X G a33
  have F33 := fun_mk (st := s_law) l33 c33 k33
  have n_is_int := fn_is_int (P := l.prog) (w := w) (base := base) F0 B 
  have c_is_int := calN n_is_int g0 F0 (fun _ _ _ _ _ _ us hl => match us, hl with | [_], _ => rfl)
  have n_is_whole := fn_is_whole (P := l.prog) (w := w) (base := base) F1 B c_is_int
  have c_is_whole := calN n_is_whole g1 F1 (fun _ _ _ _ _ _ us hl => match us, hl with | [_, _, _], _ => rfl)
  have n_is_number := fn_is_number (P := l.prog) (w := w) (base := base) F2 B c_is_int
  have c_is_number := calN n_is_number g2 F2 (fun _ _ _ _ _ _ us hl => match us, hl with | [_], _ => rfl)
  have cq_is_number := c_is_number.imp im_isnum
  have n_need_number := fn_need_number (P := l.prog) (w := w) (base := base) F3 B c_is_number
  have c_need_number := calN n_need_number g3 F3 (fun _ _ _ _ _ _ us hl => match us, hl with | [_], _ => rfl)
  have cq_need_number := c_need_number.imp im_need
  have n_pair_of := fn_pair_of (P := l.prog) (w := w) (base := base) F4 B 
  have c_pair_of := calN n_pair_of g4 F4 (fun _ _ _ _ _ _ us hl => match us, hl with | [_], _ => rfl)
  have n_lowest := fn_lowest (P := l.prog) (w := w) (base := base) F5 B 
  have c_lowest := calN n_lowest g5 F5 (fun _ _ _ _ _ _ us hl => match us, hl with | [_, _], _ => rfl)
  have n__added := fn__added (P := l.prog) (w := w) (base := base) F6 B c_pair_of
  have c__added := calN n__added g6 F6 (fun _ _ _ _ _ _ us hl => match us, hl with | [_, _], _ => rfl)
  have n_plus := fn_plus (P := l.prog) (w := w) (base := base) F7 B c__added c_need_number
  have c_plus := calN n_plus g7 F7 (fun _ _ _ _ _ _ us hl => match us, hl with | [_, _], _ => rfl)
  have cq_plus := c_plus.imp im_add
  have n_times := fn_times (P := l.prog) (w := w) (base := base) F8 B c_lowest c_pair_of c_need_number
  have c_times := calN n_times g8 F8 (fun _ _ _ _ _ _ us hl => match us, hl with | [_, _], _ => rfl)
  have cq_times := c_times.imp im_mul
  have n_over := fn_over (P := l.prog) (w := w) (base := base) F9 B c_lowest c_pair_of c_need_number
  have c_over := calN n_over g9 F9 (fun _ _ _ _ _ _ us hl => match us, hl with | [_, _], _ => rfl)
  have cq_over := c_over.imp im_over
  have n_is_place := fn_is_place (P := l.prog) (w := w) (base := base) F10 B cq_is_number
  have c_is_place := calN n_is_place g10 F10 (fun _ _ _ _ _ _ us hl => match us, hl with | [_], _ => rfl)
  have n_need_place := fn_need_place (P := l.prog) (w := w) (base := base) F11 B c_is_place
  have c_need_place := calN n_need_place g11 F11 (fun _ _ _ _ _ _ us hl => match us, hl with | [_], _ => rfl)
  have n_is_way := fn_is_way (P := l.prog) (w := w) (base := base) F12 B c_is_whole c_is_int
  have c_is_way := calN n_is_way g12 F12 (fun _ _ _ _ _ _ us hl => match us, hl with | [_], _ => rfl)
  have n_need_way := fn_need_way (P := l.prog) (w := w) (base := base) F13 B c_is_way
  have c_need_way := calN n_need_way g13 F13 (fun _ _ _ _ _ _ us hl => match us, hl with | [_], _ => rfl)
  have n_slide := fn_slide (P := l.prog) (w := w) (base := base) F14 B cq_plus cq_over cq_times c_need_way cq_need_number c_need_place
  have ck_slide_2_way := calKD n_slide g14 F14 2 ["way"] [] [0, 1, 2] (by intro z; cases z) (fun q hq => nomatch hq) (fun _ _ _ _ _ _ us mv ws h1 h2 h3 => match us, h1, mv, h2, ws, h3 with | [_, _], _, [], _, [_], _ => rfl)
  have n_moved := fn_moved (P := l.prog) (w := w) (base := base) F15 B e_NoWay n_NoWay b_NoWay cq_over cq_times c_need_way cq_need_number c_need_place ck_slide_2_way
  have cx_moved_2_move_along := calXD n_moved g15 F15 2 ["move", "along"] [] [0, 1, 2, 3] (by intro z; cases z) (fun q hq => nomatch hq) (fun _ _ _ _ _ _ us mv ws h1 h2 h3 => match us, h1, mv, h2, ws, h3 with | [_, _], _, [], _, [_, _], _ => rfl)
  have ck_moved_2_move_along := cx_moved_2_move_along.no
  have cx_moved_1_move_by_along := calXD n_moved g15 F15 1 ["move", "by", "along"] [] [0, 2, 1, 3] (by intro z; cases z) (fun q hq => nomatch hq) (fun _ _ _ _ _ _ us mv ws h1 h2 h3 => match us, h1, mv, h2, ws, h3 with | [_], _, [], _, [_, _, _], _ => rfl)
  have ck_moved_1_move_by_along := cx_moved_1_move_by_along.no
  have cx_moved_2_along_move := calXD n_moved g15 F15 2 ["along", "move"] [] [0, 1, 3, 2] (by intro z; cases z) (fun q hq => nomatch hq) (fun _ _ _ _ _ _ us mv ws h1 h2 h3 => match us, h1, mv, h2, ws, h3 with | [_, _], _, [], _, [_, _], _ => rfl)
  have ck_moved_2_along_move := cx_moved_2_along_move.no
  have cx_moved_2_along := calXD n_moved g15 F15 2 ["along"] [("move", V.ref a_EAST)] [0, 1, 2, 3] (by intro z; cases z) (by intro q hq; simp only [List.mem_cons, List.not_mem_nil, or_false] at hq; subst hq; simp) (fun _ _ _ _ _ _ us mv ws h1 h2 h3 => match us, h1, mv, h2, ws, h3 with | [_, _], _, [_], _, [_], _ => ⟨_, _, _, _, _, _, rfl, rfl, rfl⟩)
  have ck_moved_2_along := cx_moved_2_along.no
  have cx_moved_2_move := calXD n_moved g15 F15 2 ["move"] [("along", V.ref a_EAST)] [0, 1, 3, 2] (by intro z; cases z) (by intro q hq; simp only [List.mem_cons, List.not_mem_nil, or_false] at hq; subst hq; simp) (fun _ _ _ _ _ _ us mv ws h1 h2 h3 => match us, h1, mv, h2, ws, h3 with | [_, _], _, [_], _, [_], _ => ⟨_, _, _, _, _, _, rfl, rfl, rfl⟩)
  have ck_moved_2_move := cx_moved_2_move.no
  have cx_moved_2 := calXD n_moved g15 F15 2 [] [("move", V.ref a_EAST), ("along", V.ref a_EAST)] [0, 1, 2, 3] (by intro z; cases z) (by intro q hq; simp only [List.mem_cons, List.not_mem_nil, or_false] at hq; rcases hq with rfl | rfl <;> simp) (fun _ _ _ _ _ _ us mv ws h1 h2 h3 => match us, h1, mv, h2, ws, h3 with | [_, _], _, [_, _], _, [], _ => ⟨_, _, _, _, _, _, rfl, rfl, ⟨_, _, _, _, _, _, rfl, rfl, rfl⟩⟩)
  have ck_moved_2 := cx_moved_2.no
  have n__law_cell := fn__law_cell (P := l.prog) (w := w) (base := base) F16 B 
  have c__law_cell := calN n__law_cell g16 F16 (fun _ _ _ _ _ _ us hl => match us, hl with | [_, _], _ => rfl)
  have n__law_box := fn__law_box (P := l.prog) (w := w) (base := base) F17 B 
  have c__law_box := calN n__law_box g17 F17 (fun _ _ _ _ _ _ us hl => match us, hl with | [_], _ => rfl)
  have n__law_take := fn__law_take (P := l.prog) (w := w) (base := base) F18 B 
  have c__law_take := calN n__law_take g18 F18 (fun _ _ _ _ _ _ us hl => match us, hl with | [_, _], _ => rfl)
  have n__law_far := fn__law_far (P := l.prog) (w := w) (base := base) F19 B c__law_take
  have c__law_far := calN n__law_far g19 F19 (fun _ _ _ _ _ _ us hl => match us, hl with | [_], _ => rfl)
  have n__law_number := fn__law_number (P := l.prog) (w := w) (base := base) F20 B 
  have c__law_number := calN n__law_number g20 F20 (fun _ _ _ _ _ _ us hl => match us, hl with | [_, _], _ => rfl)
  have cq__law_number := c__law_number.imp im_low
  have n__law_pair := fn__law_pair (P := l.prog) (w := w) (base := base) F21 B 
  have c__law_pair := calN n__law_pair g21 F21 (fun _ _ _ _ _ _ us hl => match us, hl with | [_], _ => rfl)
  have cq__law_pair := c__law_pair.imp im_pair
  have n__law_is_v0 := fn__law_is_v0 (P := l.prog) (w := w) (base := base) F22 B 
  have c__law_is_v0 := calN n__law_is_v0 g22 F22 (fun _ _ _ _ _ _ us hl => match us, hl with | [_, _], _ => rfl)
  have n__law_is := fn__law_is (P := l.prog) (w := w) (base := base) F22 B c__law_is_v0
  have c__law_is := calN n__law_is g22 F22 (fun _ _ _ _ _ _ us hl => match us, hl with | [_, _], _ => rfl)
  have cq__law_is := c__law_is.imp im_is
  have n__law_drawn := fn__law_drawn (P := l.prog) (w := w) (base := base) F23 B c__law_number c__law_far c__law_take
  have c__law_drawn := calN n__law_drawn g23 F23 (fun _ _ _ _ _ _ us hl => match us, hl with | [_], _ => rfl)
  have cq__law_drawn := c__law_drawn.imp im_drawn
  have n__law_sum := fn__law_sum (P := l.prog) (w := w) (base := base) F24 B cq__law_number cq__law_pair
  have c__law_sum := calN n__law_sum g24 F24 (fun _ _ _ _ _ _ us hl => match us, hl with | [_, _], _ => rfl)
  have n__law_product := fn__law_product (P := l.prog) (w := w) (base := base) F25 B cq__law_number cq__law_pair
  have c__law_product := calN n__law_product g25 F25 (fun _ _ _ _ _ _ us hl => match us, hl with | [_, _], _ => rfl)
  have n__law_slope := fn__law_slope (P := l.prog) (w := w) (base := base) F26 B c__law_take
  have c__law_slope := calN n__law_slope g26 F26 (fun _ _ _ _ _ _ us hl => match us, hl with | [_], _ => rfl)
  have n__law_measure := fn__law_measure (P := l.prog) (w := w) (base := base) F27 B c__law_product c__law_sum
  have c__law_measure := calN n__law_measure g27 F27 (fun _ _ _ _ _ _ us hl => match us, hl with | [_, _], _ => rfl)
  have n__law_plain_place := fn__law_plain_place (P := l.prog) (w := w) (base := base) F28 B cq__law_is cq__law_number cq__law_pair
  have c__law_plain_place := calN n__law_plain_place g28 F28 (fun _ _ _ _ _ _ us hl => match us, hl with | [_], _ => rfl)
  have n__law_moved_right := fn__law_moved_right (P := l.prog) (w := w) (base := base) F29 B cq__law_is c__law_product c__law_sum c__law_measure c__law_plain_place
  have c__law_moved_right := calN n__law_moved_right g29 F29 (fun _ _ _ _ _ _ us hl => match us, hl with | [_, _, _, _, _], _ => rfl)
  have n__law_refused := fn__law_refused (P := l.prog) (w := w) (base := base) F30 B e_NoWay cx_moved_2_move_along
  have c__law_refused := calN n__law_refused g30 F30 (fun _ _ _ _ _ _ us hl => match us, hl with | [_, _, _, _], _ => rfl)
  have n__law_right := fn__law_right (P := l.prog) (w := w) (base := base) F31 B c__law_product c__law_moved_right c__law_refused ck_moved_2_move_along ck_moved_1_move_by_along ck_moved_2_along_move
  have c__law_right := calN n__law_right g31 F31 (fun _ _ _ _ _ _ us hl => match us, hl with | [_, _, _, _], _ => rfl)
  have n__law_left_out := fn__law_left_out (P := l.prog) (w := w) (base := base) F32 B c__law_moved_right c__law_refused c__law_sum ck_moved_2_along ck_moved_2_move ck_moved_2 w_EAST
  have c__law_left_out := calN n__law_left_out g32 F32 (fun _ _ _ _ _ _ us hl => match us, hl with | [_, _, _], _ => rfl)
  exact fn_law (P := l.prog) (w := w) (base := base) F33 B c__law_right c__law_left_out cq__law_drawn c__law_take c__law_slope c__law_box c__law_cell
end HP
open PySem PySem.W PyProof.Rows
set_option maxHeartbeats 0 in
theorem PySem.Challenge.cw_hintedpoints_k09_places_moved_holds : PySem.Challenge.rw_hintedpoints_k09_places_moved.Holds := by
  w_on; o_law; k_head; (case hw => w_witness2)
  k_fill
  refine L2.walk_of (CX := fun _ => L2.CX0) (l := PySem.Challenge.rw_hintedpoints_k09_places_moved) (n := 63) (k := 9) (x := "_law_script") (sp := fun w => HP.spN 1 (HP.spLaw _)) rfl (by decide) rfl ⟨rfl, by decide, by decide⟩ (fun w h Y => PySem.W.kIn_of Y) ?F (fun _ _ a ns hl _ hS => ⟨rfl, a, ns, rfl, hS, hl, fun _ => rfl⟩) (fun _ _ _ _ _ h => h)
  case F =>
    intro w mg fa h KX G hmg
    refine' HP.all_mk KX G hmg ?a0 ?l0 ?c0 ?k0 ?a1 ?l1 ?c1 ?k1 ?a2 ?l2 ?c2 ?k2 ?a3 ?l3 ?c3 ?k3 ?a4 ?l4 ?c4 ?k4 ?a5 ?l5 ?c5 ?k5 ?a6 ?l6 ?c6 ?k6 ?a7 ?l7 ?c7 ?k7 ?a8 ?l8 ?c8 ?k8 ?a9 ?l9 ?c9 ?k9 ?a10 ?l10 ?c10 ?k10 ?a11 ?l11 ?c11 ?k11 ?a12 ?l12 ?c12 ?k12 ?a13 ?l13 ?c13 ?k13 ?a14 ?l14 ?c14 ?k14 ?q14_way ?a15 ?l15 ?c15 ?k15 ?q15_move ?q15_along ?a16 ?l16 ?c16 ?k16 ?a17 ?l17 ?c17 ?k17 ?a18 ?l18 ?c18 ?k18 ?a19 ?l19 ?c19 ?k19 ?a20 ?l20 ?c20 ?k20 ?a21 ?l21 ?c21 ?k21 ?a22 ?l22 ?c22 ?k22 ?a23 ?l23 ?c23 ?k23 ?a24 ?l24 ?c24 ?k24 ?a25 ?l25 ?c25 ?k25 ?a26 ?l26 ?c26 ?k26 ?a27 ?l27 ?c27 ?k27 ?a28 ?l28 ?c28 ?k28 ?a29 ?l29 ?c29 ?k29 ?a30 ?l30 ?c30 ?k30 ?a31 ?l31 ?c31 ?k31 ?a32 ?l32 ?c32 ?k32 ?a33 ?l33 ?c33 ?k33 ?z_isinstance ?z_bool ?z_int ?z_gcd ?z_len ?z_tuple ?z_all ?z_LONGEST ?z_max ?z_range ?z_abs ?z_min ?aC_NoWay ?xL_NoWay ?bV_NoWay ?sa_NoWay ?ga_NoWay ?gg_NoWay ?nF_NoWay ?iN_NoWay ?tI_NoWay ?kC_NoWay ?eC_NoWay ?tC_NoWay ?hC_NoWay ?iC_NoWay ?sC_NoWay ?lI_NoWay ?cI_NoWay ?kI_NoWay ?L_EAST
    (case a0 => k_is); (case l0 => k_is); (case c0 => k_is); (case k0 => k_is); (case a1 => k_is); (case l1 => k_is); (case c1 => k_is); (case k1 => k_is); (case a2 => k_is); (case l2 => k_is); (case c2 => k_is); (case k2 => k_is); (case a3 => k_is); (case l3 => k_is); (case c3 => k_is); (case k3 => k_is); (case a4 => k_is); (case l4 => k_is); (case c4 => k_is); (case k4 => k_is); (case a5 => k_is); (case l5 => k_is); (case c5 => k_is); (case k5 => k_is); (case a6 => k_is); (case l6 => k_is); (case c6 => k_is); (case k6 => k_is); (case a7 => k_is); (case l7 => k_is); (case c7 => k_is); (case k7 => k_is); (case a8 => k_is); (case l8 => k_is); (case c8 => k_is); (case k8 => k_is); (case a9 => k_is); (case l9 => k_is); (case c9 => k_is); (case k9 => k_is); (case a10 => k_is); (case l10 => k_is); (case c10 => k_is); (case k10 => k_is); (case a11 => k_is); (case l11 => k_is); (case c11 => k_is); (case k11 => k_is); (case a12 => k_is); (case l12 => k_is); (case c12 => k_is); (case k12 => k_is); (case a13 => k_is); (case l13 => k_is); (case c13 => k_is); (case k13 => k_is); (case a14 => k_is); (case l14 => k_is); (case c14 => k_is); (case k14 => k_is); (case q14_way => k_is); (case a15 => k_is); (case l15 => k_is); (case c15 => k_is); (case k15 => k_is); (case q15_move => k_is); (case q15_along => k_is); (case a16 => k_is); (case l16 => k_is); (case c16 => k_is); (case k16 => k_is); (case a17 => k_is); (case l17 => k_is); (case c17 => k_is); (case k17 => k_is); (case a18 => k_is); (case l18 => k_is); (case c18 => k_is); (case k18 => k_is); (case a19 => k_is); (case l19 => k_is); (case c19 => k_is); (case k19 => k_is); (case a20 => k_is); (case l20 => k_is); (case c20 => k_is); (case k20 => k_is); (case a21 => k_is); (case l21 => k_is); (case c21 => k_is); (case k21 => k_is); (case a22 => k_is); (case l22 => k_is); (case c22 => k_is); (case k22 => k_is); (case a23 => k_is); (case l23 => k_is); (case c23 => k_is); (case k23 => k_is); (case a24 => k_is); (case l24 => k_is); (case c24 => k_is); (case k24 => k_is); (case a25 => k_is); (case l25 => k_is); (case c25 => k_is); (case k25 => k_is); (case a26 => k_is); (case l26 => k_is); (case c26 => k_is); (case k26 => k_is); (case a27 => k_is); (case l27 => k_is); (case c27 => k_is); (case k27 => k_is); (case a28 => k_is); (case l28 => k_is); (case c28 => k_is); (case k28 => k_is); (case a29 => k_is); (case l29 => k_is); (case c29 => k_is); (case k29 => k_is); (case a30 => k_is); (case l30 => k_is); (case c30 => k_is); (case k30 => k_is); (case a31 => k_is); (case l31 => k_is); (case c31 => k_is); (case k31 => k_is); (case a32 => k_is); (case l32 => k_is); (case c32 => k_is); (case k32 => k_is); (case a33 => k_is); (case l33 => k_is); (case c33 => k_is); (case k33 => k_is); (case z_isinstance => k_is); (case z_bool => k_is); (case z_int => k_is); (case z_gcd => k_is); (case z_len => k_is); (case z_tuple => k_is); (case z_all => k_is); (case z_LONGEST => k_is); (case z_max => k_is); (case z_range => k_is); (case z_abs => k_is); (case z_min => k_is); (case aC_NoWay => k_is); (case xL_NoWay => k_is); (case bV_NoWay => decide +kernel); (case sa_NoWay => k_is); (case ga_NoWay => k_is); (case gg_NoWay => k_is); (case nF_NoWay => k_is); (case iN_NoWay => k_is); (case tI_NoWay => k_is); (case kC_NoWay => k_is); (case eC_NoWay => k_is); (case tC_NoWay => k_is); (case hC_NoWay => k_is); (case iC_NoWay => k_is); (case sC_NoWay => first | rfl | k_is); (case lI_NoWay => k_is); (case cI_NoWay => k_is); (case kI_NoWay => k_is); (case L_EAST => k_is)
