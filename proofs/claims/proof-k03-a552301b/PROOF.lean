import PyProof.Rows.All
import Wide.All
import OpenK.AllK
import Wide.FinOn
import HandS.ForMost
import HandS.Wide
import HandS.Gcd
import HandS.IsInst
import HandS.Defaults
import HandS.MakeKwOnly
import PySem.Challenge.RW_hintedpoints_k03_numbers_compared
set_option Elab.async false
set_option linter.all false
set_option maxRecDepth 100000
set_option maxHeartbeats 4000000
namespace HP
open PySem PySem.Spec PyProof.Rows L2

/-! ### a def that can be called -/
def spN (n : Nat) (sp : Sp) : Sp := fun vs H Q E => vs.length = n ∧ sp vs H Q E
structure Cal (P : Program) (w : World) (K : PySem.W.Frag) (mg : Str → Option Value) (base : Heap) (k : Nat) (x : Str) (ps : List Str) (sp : Sp) : Prop where
  ex : ∃ (f : Addr) (fd : FuncData), FnOk P w K mg base CX0 k f fd ps (spN ps.length sp) ∧ mg x = some (.ref f) ∧ PySem.W.keepIn K (.ref f) = true ∧ Binds K fd ps []
section
variable {P : Program} {w : World} {K : PySem.W.Frag} {mg : Str → Option Value} {base : Heap}
theorem fnN {x : Str} {st : Stmt} {f : Addr} {fd : FuncData} {N ps : List Str} {k : Nat} {sp : Sp} (F : Fun K x x st f fd) (S : FnScope N ps (defScope st))
    (hbody : ∀ (cdv : Value) (A : Around) (outer : List Env) (s : Shared) (H : Hp) (vs : List V) (Q : VK) (E : XK), Room k (A.deeper (envOfC x (defScope st) s.heap.objs.size f cdv)) → sp vs H Q E →
      ∃ t, PSs (cxOf CX0 P w K mg base N x (defScope st) f cdv A outer s H E).nox (defBody st) t ∧ t { nx := fun _ H' => Q .non H', rt := Q } (start N vs) H) : FnOk P w K mg base CX0 (k + 1) f fd ps (spN ps.length sp) :=
  F.ok S (fun _ _ _ _ h => h.1) (fun cdv A outer s H vs Q E hr h => hbody cdv A outer s H vs Q E hr h.2)
theorem fnD {x : Str} {st : Stmt} {dvs : List V} {kws : List (Str × V)} {f : Addr} {fd : FuncData} {N ps : List Str} {k : Nat} {sp : Sp} (F : FunD K x x (defArgs st) (defBody st) (defScope st) dvs kws f fd) (S : FnScope N ps (defScope st))
    (hbody : ∀ (cdv : Value) (A : Around) (outer : List Env) (s : Shared) (H : Hp) (vs : List V) (Q : VK) (E : XK), Room k (A.deeper (envOfC x (defScope st) s.heap.objs.size f cdv)) → sp vs H Q E →
      ∃ t, PSs (cxOf CX0 P w K mg base N x (defScope st) f cdv A outer s H E).nox (defBody st) t ∧ t { nx := fun _ H' => Q .non H', rt := Q } (start N vs) H) : FnOk P w K mg base CX0 (k + 1) f fd ps (spN ps.length sp) :=
  F.ok S (fun _ _ _ _ h => h.1) (fun cdv A outer s H vs Q E hr h => by
    obtain ⟨t, h1, h2⟩ := hbody cdv A outer s H vs Q E hr h.2
    exact ⟨t, h1.nox, h2⟩)
theorem calN {x : Str} {st : Stmt} {f : Addr} {fd : FuncData} {ps : List Str} {k : Nat} {sp : Sp} (n : FnOk P w K mg base CX0 k f fd ps (spN ps.length sp)) (g : mg x = some (.ref f)) (F : Fun K x x st f fd)
    (b : ∀ (kV doc pm : Value) (an : Option Addr) (cdv ct : Value) (us : List Value), us.length = ps.length → bindArgs (PySem.W.fnOf x x (defArgs st) (defBody st) (defScope st) .none kV doc pm an cdv ct) ⟨us, []⟩ = pure (ps.zip us)) : Cal P w K mg base k x ps sp :=
  ⟨f, fd, n, g, F.kp, F.binds b⟩
/-! .. by keywords: perm tells where each parameter stands among the positional values, the lacking ones' defaults, the keywords' values -/
def pick {α : Type} : List Nat → List α → List α
  | [], _ => []
  | i :: l, xs => match xs[i]? with
    | some x => x :: pick l xs
    | none => pick l xs
theorem vals_get : ∀ {vs : List V} {us : List Value}, Vals vs us → ∀ i : Nat, (vs[i]? = none ∧ us[i]? = none) ∨ ∃ v u, vs[i]? = some v ∧ us[i]? = some u ∧ RelV v u
  | [], _, .nil, i => .inl ⟨by simp, by simp⟩
  | v :: vs, _, .cons r _, 0 => .inr ⟨v, _, rfl, rfl, r⟩
  | v :: vs, _, .cons _ t, i + 1 => by
    have := vals_get t i
    simpa using this
theorem pick_vals {vs : List V} {us : List Value} (r : Vals vs us) : ∀ l : List Nat, Vals (pick l vs) (pick l us)
  | [] => .nil
  | i :: l => by
    unfold pick
    rcases vals_get r i with ⟨h1, h2⟩ | ⟨v, u, h1, h2, h3⟩
    · rw [h1, h2]
      exact pick_vals r l
    · rw [h1, h2]
      exact .cons h3 (pick_vals r l)
structure CalK (P : Program) (w : World) (K : PySem.W.Frag) (mg : Str → Option Value) (base : Heap) (k : Nat) (x : Str) (ps : List Str) (sp : Sp) (n : Nat) (ks : List Str) (dvs : List V) (perm : List Nat) : Prop where
  ex : ∃ (f : Addr) (fd : FuncData) (mv : List Value), FnOk P w K mg base CX0 k f fd ps (spN ps.length sp) ∧ mg x = some (.ref f) ∧ PySem.W.keepIn K (.ref f) = true ∧ KBn K fd ps n ks (fun us ws => pick perm (us ++ (mv ++ ws))) (fun vs zs => pick perm (vs ++ (dvs ++ zs)))
theorem calK {x : Str} {st : Stmt} {f : Addr} {fd : FuncData} {ps : List Str} {k : Nat} {sp : Sp} (n : FnOk P w K mg base CX0 k f fd ps (spN ps.length sp)) (g : mg x = some (.ref f)) (F : Fun K x x st f fd) (m : Nat) (ks : List Str) (perm : List Nat)
    (b : ∀ (kV doc pm : Value) (an : Option Addr) (cdv ct : Value) (us ws : List Value), us.length = m → ws.length = ks.length → bindArgs (PySem.W.fnOf x x (defArgs st) (defBody st) (defScope st) .none kV doc pm an cdv ct) ⟨us, ks.zip ws⟩ = pure (ps.zip (pick perm (us ++ ws)))) : CalK P w K mg base k x ps sp m ks [] perm := by
  obtain ⟨oc, od, kV, doc, pm, an, cdv, ct, osl, rfl, lk, hcd⟩ := F.ex
  exact ⟨f, _, [], n, g, F.kp, ⟨fun s us ws _ l1 l2 => .of_eq (b kV doc pm an cdv ct us ws l1 l2), fun r1 r2 => pick_vals (r1.append r2) perm⟩⟩
theorem calKD {x : Str} {st : Stmt} {kws : List (Str × V)} {f : Addr} {fd : FuncData} {ps : List Str} {k : Nat} {sp : Sp} (n : FnOk P w K mg base CX0 k f fd ps (spN ps.length sp)) (g : mg x = some (.ref f)) (F : FunD K x x (defArgs st) (defBody st) (defScope st) [] kws f fd) (m : Nat) (ks : List Str) (ms : List (Str × V)) (perm : List Nat)
    (hk : kws ≠ []) (hms : ∀ q ∈ ms, q ∈ kws)
    (b : ∀ (D : Addr) (doc pm : Value) (an : Option Addr) (cdv ct : Value) (us mv ws : List Value), us.length = m → mv.length = ms.length → ws.length = ks.length →
      KwChain D ((ms.map (·.1)).zip mv) (bindArgs (PySem.W.fnOf x x (defArgs st) (defBody st) (defScope st) .none (.ref D) doc pm an cdv ct) ⟨us, ks.zip ws⟩) (ps.zip (pick perm (us ++ (mv ++ ws))))) : CalK P w K mg base k x ps sp m ks (ms.map (·.2)) perm := by
  obtain ⟨mv, hb⟩ := F.kbinds0 m ks ms (fun {α} us mv ws => pick perm (us ++ (mv ++ ws))) hk hms (fun r1 r2 r3 => pick_vals (r1.append (r2.append r3)) perm) b
  exact ⟨f, fd, mv, n, g, F.kp, hb⟩
end
def tCal (n : Nat) (sp : Sp) (t : TA) : TE := fun σ H Q => t σ H fun vs H1 => vs.length = n ∧ sp vs H1 Q E0
section
variable {X : Cx} {k j : Nat} {x : Str} {ps : List Str} {sp : Sp} {p pos : Pos} {e : Expr} {es : List Expr} {t : TA}
theorem pe_cal (C : Cal X.prog X.w X.K X.mg X.base k x ps sp) (hr : Room j X.A) (hkj : k ≤ j) (hg : Gl X x) (ha : PA X (e :: es) t) (hdb : (x == ("__debug__" : Str)) = false := by decide)
    (he : starEach (e :: es) X.env = (false, eval e X.env) :: starEach es X.env := by rfl) (hpl : (backTo pos (starEach es X.env)).any (·.1) = false := by rfl) : PE X (.Call (.Name x p) (e :: es) [] pos) (tCal ps.length sp t) := by
  obtain ⟨f, fd, F, hm, hk, hb⟩ := C.ex
  have q := pe_call F (hr.mono hkj) hg hm hk hb .nil pass0 ha hdb he hpl (p := p)
  refine ⟨fun pins s σ H Q I h => q.run pins s σ H Q I ?_⟩
  have e1 : (fun (vs : List V) (H1 : Hp) => vs.length = ps.length ∧ sp vs H1 Q E0) = fun vs H1 => spN ps.length sp (vs ++ []) H1 Q E0 := by
    funext vs H1
    rw [List.append_nil]
    rfl
  show t σ H fun vs H1 => spN ps.length sp (vs ++ []) H1 Q E0
  rw [← e1]
  exact h
def tCalK (n m np : Nat) (sp : Sp) (dvs : List V) (perm : List Nat) (t tk : TA) : TE := fun σ H Q => t σ H fun vs H1 => tk σ H1 fun zs H2 => vs.length = n ∧ zs.length = m ∧ (pick perm (vs ++ (dvs ++ zs))).length = np ∧ sp (pick perm (vs ++ (dvs ++ zs))) H2 Q E0
variable {n : Nat} {ks : List Str} {dvs : List V} {perm : List Nat} {kws : List Keyword} {tk : TA}
theorem pe_calK (C : CalK X.prog X.w X.K X.mg X.base k x ps sp n ks dvs perm) (hr : Room j X.A) (hkj : k ≤ j) (hg : Gl X x) (ha : PA X (e :: es) t) (hkw : PK X kws tk) (hall : (backToKw pos (keywordEach kws X.env)).all (·.1.isSome) = true := by rfl) (hks : (backToKw pos (keywordEach kws X.env)).filterMap (·.1) = ks := by rfl)
    (hdb : (x == ("__debug__" : Str)) = false := by decide) (he : starEach (e :: es) X.env = (false, eval e X.env) :: starEach es X.env := by rfl)
    (hpl : ((backTo pos (starEach (e :: es) X.env)).any (·.1) || (backToKw pos (keywordEach kws X.env)).any (·.1.isNone)) = false := by rfl) : PE X (.Call (.Name x p) (e :: es) kws pos) (tCalK n ks.length ps.length sp dvs perm t tk) := by
  obtain ⟨f, fd, mv, F, hm, hk, hb⟩ := C.ex
  exact pe_callN F (hr.mono hkj) hg hm hk hb pass0 ha hkw hall hks hdb he hpl (p := p)
theorem pe_calK0 (C : CalK X.prog X.w X.K X.mg X.base k x ps sp 0 ks dvs perm) (hr : Room j X.A) (hkj : k ≤ j) (hg : Gl X x) (hkw : PK X kws tk) (hall : (backToKw pos (keywordEach kws X.env)).all (·.1.isSome) = true := by rfl) (hks : (backToKw pos (keywordEach kws X.env)).filterMap (·.1) = ks := by rfl)
    (hdb : (x == ("__debug__" : Str)) = false := by decide) (hpl : ((backTo pos (starEach [] X.env)).any (·.1) || (backToKw pos (keywordEach kws X.env)).any (·.1.isNone)) = false := by rfl) : PE X (.Call (.Name x p) [] kws pos) (tCalK 0 ks.length ps.length sp dvs perm tNil tk) := by
  obtain ⟨f, fd, mv, F, hm, hk, hb⟩ := C.ex
  refine ⟨fun pins s σ H Q I h => ?_⟩
  refine wpAny_Call_Name_kw (ld_glob I hg hm ?_ hdb)
  refine PySem.W.callWith_KW0 (h₀ := X.base) I.ok.mod.kin hk hall ?_ hpl
  refine thn (hkw.run pos pins s σ H _ I h) fun ws s2 ⟨zs, H2, I2, rz, l1, l2, q2⟩ => ⟨I2.kIn, ?_⟩
  rw [hks]
  exact run_fnN (us := []) (vs := []) F (hr.mono hkj) hb pass0 I2 .nil rz rfl l2 q2
end

/-! ### heaps -/
theorem Same.up {H : Hp} {p : Addr} {o : HO} (h : H p = none) : Same H (upd H p o) := fun b x e => by
  rw [upd_ne (ne_of_none e h)]
  exact e
def Go (bx : Addr) (H H' : Hp) : Prop := ∀ b o, H b = some o → b ≠ bx → H' b = some o
theorem Go.refl {bx : Addr} (H : Hp) : Go bx H H := fun _ _ h _ => h
theorem Go.trans {bx : Addr} {H H1 H2 : Hp} (a : Go bx H H1) (b : Go bx H1 H2) : Go bx H H2 := fun c o h n => b c o (a c o h n) n
theorem Go.of {bx : Addr} {H H' : Hp} (s : Same H H') : Go bx H H' := fun b o h _ => s b o h
theorem Go.set {bx : Addr} {H : Hp} {o : HO} : Go bx H (upd H bx o) := fun b x e n => by
  rw [upd_ne n]
  exact e
theorem Same.fr {H H' : Hp} (s : Same H H') {p : Addr} (h : H' p = none) : H p = none := s.free h

/-! ### bounds -/
structure Bt (n : Nat) (x : Int) : Prop where
  lt : x.natAbs < 2 ^ n
theorem Bt.mono {n m : Nat} {x : Int} (h : Bt n x) (hm : n ≤ m) : Bt m x := ⟨Nat.lt_of_lt_of_le h.lt (Nat.pow_le_pow_right (by decide) hm)⟩
theorem Bt.le {n : Nat} {x y : Int} (h : Bt n y) (l : x.natAbs ≤ y.natAbs) : Bt n x := ⟨Nat.lt_of_le_of_lt l h.lt⟩
theorem Bt.mul {n m : Nat} {x y : Int} (h : Bt n x) (k : Bt m y) : Bt (n + m) (x * y) := ⟨wide_lt h.lt k.lt⟩
theorem Bt.add {n m : Nat} {x y : Int} (h : Bt n x) (k : Bt m y) : Bt (n + m + 1) (x + y) := ⟨by
  have h1 := (h.mono (Nat.le_add_right n m)).lt
  have h2 := (k.mono (Nat.le_add_left m n)).lt
  rw [Nat.pow_succ]
  generalize 2 ^ (n + m) = z at h1 h2 ⊢
  omega⟩
theorem Bt.neg {n : Nat} {x : Int} (h : Bt n x) : Bt n (-x) := ⟨by rw [Int.natAbs_neg]; exact h.lt⟩
theorem Bt.sub {n m : Nat} {x y : Int} (h : Bt n x) (k : Bt m y) : Bt (n + m + 1) (x - y) := by
  rw [Int.sub_eq_add_neg]
  exact h.add k.neg
theorem Bt.small {x : Int} (h : -9223372036854775808 < x) (h' : x < 9223372036854775808) : Bt 63 x := ⟨by
  have e : (2 : Nat) ^ 63 = 9223372036854775808 := by decide
  rw [e]
  omega⟩
theorem Bt.log {n : Nat} {x : Int} (h : Bt n x) : x.natAbs.log2 < n + 1 := PySem.Flt.log2_lt_of (Nat.succ_pos n) (h.mono (Nat.le_succ n)).lt
theorem mulW {n m : Nat} {i j : Int} (h : Bt n i) (k : Bt m j) (l : n + m ≤ 900000) : CMulW i j := by
  have := h.log
  have := k.log
  unfold CMulW
  omega
/-- // by any divisor but 0, below 2 ^ 8900 -/
def CDivA (_ j : Int) : Prop := j ≠ 0 ∧ j.natAbs.log2 < 9000
theorem divA {n : Nat} {i j : Int} (h : j ≠ 0) (k : Bt n j) (l : n ≤ 8900) : CDivA i j := ⟨h, by have := k.log; omega⟩
section
variable {X : Cx}
theorem op_fdivA : OpR X (binaryOp .FloorDiv) (rI CDivA fun i j => .int (i.fdiv j)) := opI fun _ _ _ _ _ _ _ hc q => floordiv_int hc.1 q (.inl (PyProof.noPylong_of_log2 hc.2))
def rLenK (K : PySem.W.Frag) : List V → Hp → VK → Prop := fun xs H Q => ∃ x n, xs = [x] ∧ LenV K x H n ∧ Q (.int n) H
theorem call_lenK : CallR X (.builtin "len") (rLenK X.K) := call_len
def rAbs : List V → Hp → VK → Prop := fun xs H Q => ∃ i, xs = [.int i] ∧ Q (.int (if i < 0 then -i else i)) H
theorem call_absK : CallR X (.builtin "abs") rAbs := call_abs
def rMax : List V → Hp → VK → Prop := fun xs H Q => ∃ i j, xs = [.int i, .int j] ∧ Q (.int (if j > i then j else i)) H
theorem call_maxK (hc : X.calm = true) : CallR X (.builtin "max") rMax := call_max2 hc
def rMin : List V → Hp → VK → Prop := fun xs H Q => ∃ i j, xs = [.int i, .int j] ∧ Q (.int (if j < i then j else i)) H
theorem call_minK (hc : X.calm = true) : CallR X (.builtin "min") rMin := call_min2 hc
def rInt : List V → Hp → VK → Prop := fun xs H Q => (∃ i, xs = [.int i] ∧ Q (.int i) H) ∨ ∃ k, xs = [.bl k] ∧ Q (.int (if k then 1 else 0)) H
theorem call_intK : CallR X (.type "int") rInt := call_int1
theorem op_eqI : OpR X (compareOp .Eq) (rI0 fun i j => .bl (decide (i = j))) := fun pins s σ H x y v u Q I rx ry h => by
  obtain ⟨i, j, rfl, rfl, q⟩ := h
  refine op_eq pins s σ H _ _ v u Q I rx ry ⟨rfl, ?_⟩
  have e : decide (V.int i = V.int j) = decide (i = j) := by
    by_cases z : i = j
    · rw [decide_eq_true z, decide_eq_true (congrArg V.int z)]
    · rw [decide_eq_false z, decide_eq_false (fun y => z (V.int.inj y))]
  rw [e]
  exact q
theorem op_neI : OpR X (compareOp .NotEq) (rI0 fun i j => .bl (!decide (i = j))) := fun pins s σ H x y v u Q I rx ry h => by
  obtain ⟨i, j, rfl, rfl, q⟩ := h
  refine op_ne pins s σ H _ _ v u Q I rx ry ⟨rfl, ?_⟩
  have e : decide (V.int i = V.int j) = decide (i = j) := by
    by_cases z : i = j
    · rw [decide_eq_true z, decide_eq_true (congrArg V.int z)]
    · rw [decide_eq_false z, decide_eq_false (fun y => z (V.int.inj y))]
  rw [e]
  exact q
end

theorem Bt.abs {n : Nat} {x : Int} (h : Bt n x) : Bt n (if x < 0 then -x else x) := by
  split
  · exact h.neg
  · exact h
theorem fmod_lo (a : Int) {b : Int} (h : 0 < b) : 0 ≤ a.fmod b := by
  rw [Int.fmod_eq_emod_of_nonneg a (Int.le_of_lt h)]
  exact Int.emod_nonneg a (by omega)
theorem fmod_hi (a : Int) {b : Int} (h : 0 < b) : a.fmod b < b := Int.fmod_lt_of_pos a h
theorem Bt.max1 {n : Nat} {x : Int} (h : Bt n x) (hn : 1 ≤ n) : Bt n (if x > 1 then x else 1) := by
  split
  · exact h
  · exact (⟨by decide⟩ : Bt 1 1).mono hn
theorem max1_pos (x : Int) : 0 < (if x > 1 then x else 1) := by
  split <;> omega
theorem abs_abs (x : Int) : (if x < 0 then -x else x).natAbs = x.natAbs := by
  split
  · exact Int.natAbs_neg x
  · rfl
theorem fmod_abs {x y : Int} (hx : 0 ≤ x) (hy : 0 ≤ y) : (x.fmod y).natAbs = x.natAbs % y.natAbs := by
  rw [Int.fmod_eq_emod_of_nonneg x hy]
  obtain ⟨a, rfl⟩ := Int.eq_ofNat_of_zero_le hx
  obtain ⟨b, rfl⟩ := Int.eq_ofNat_of_zero_le hy
  exact Int.natAbs_natCast (a % b)
theorem fdiv_lo {a b : Int} (h : 0 ≤ a) (hb : 0 < b) : 0 ≤ a.fdiv b := by
  rw [Int.fdiv_eq_ediv_of_nonneg a (Int.le_of_lt hb)]
  exact Int.ediv_nonneg h (Int.le_of_lt hb)

/-! ### numbers -/
def cop (t b : Int) : Prop := Nat.gcd t.natAbs b.natAbs = 1
def Num (H : Hp) (v : V) (t b : Int) : Prop := (v = .int t ∧ b = 1) ∨ ∃ a, v = .ref a ∧ H a = some (.tup [.int t, .int b]) ∧ 2 ≤ b ∧ cop t b
theorem Num.pos {H : Hp} {v : V} {t b : Int} (h : Num H v t b) : 0 < b := by
  rcases h with ⟨_, rfl⟩ | ⟨_, _, _, h, _⟩
  · decide
  · omega
theorem Num.cop {H : Hp} {v : V} {t b : Int} (h : Num H v t b) : cop t b := by
  rcases h with ⟨_, rfl⟩ | ⟨_, _, _, _, h⟩
  · exact Nat.gcd_one_right _
  · exact h
theorem Num.same {H H' : Hp} {v : V} {t b : Int} (h : Num H v t b) (s : Same H H') : Num H' v t b := by
  rcases h with h | ⟨a, h1, h2, h3⟩
  · exact .inl h
  · exact .inr ⟨a, h1, s _ _ h2, h3⟩
theorem Num.int {H : Hp} {t : Int} : Num H (.int t) t 1 := .inl ⟨rfl, rfl⟩
/-- t' over b', lowest, of t over b -/
structure Low (t b t' b' : Int) : Prop where
  eq : t' * b = t * b'
  nt : t'.natAbs ≤ t.natAbs
  nb : b'.natAbs ≤ b.natAbs
theorem low_one {t1 b1 t2 b2 : Int} (p1 : 0 < b1) (p2 : 0 < b2) (c1 : HP.cop t1 b1) (c2 : HP.cop t2 b2) (h : t1 * b2 = t2 * b1) : t1 = t2 ∧ b1 = b2 := by
  have hn : t1.natAbs * b2.natAbs = t2.natAbs * b1.natAbs := by
    rw [← Int.natAbs_mul, ← Int.natAbs_mul, h]
  have d1 : b1.natAbs ∣ b2.natAbs := by
    have : b1.natAbs ∣ t1.natAbs * b2.natAbs := ⟨t2.natAbs, by rw [hn, Nat.mul_comm]⟩
    exact Nat.Coprime.dvd_of_dvd_mul_left (Nat.Coprime.symm c1) this
  have d2 : b2.natAbs ∣ b1.natAbs := by
    have : b2.natAbs ∣ t2.natAbs * b1.natAbs := ⟨t1.natAbs, by rw [← hn, Nat.mul_comm]⟩
    exact Nat.Coprime.dvd_of_dvd_mul_left (Nat.Coprime.symm c2) this
  have e := Nat.dvd_antisymm d1 d2
  have eb : b1 = b2 := by omega
  subst eb
  exact ⟨Int.eq_of_mul_eq_mul_right (by omega) h, rfl⟩
theorem Num.one {H H' : Hp} {v v' : V} {t b t' b' : Int} (h : Num H v t b) (h' : Num H' v' t' b') (e : t * b' = t' * b) : t = t' ∧ b = b' := low_one h.pos h'.pos h.cop h'.cop e
/-- the divisor with the base's sign -/
def gsg (t b : Int) : Int := if b < 0 then -((Nat.gcd t.natAbs b.natAbs : Nat) : Int) else ((Nat.gcd t.natAbs b.natAbs : Nat) : Int)
structure Cut (t b s t' b' : Int) : Prop where
  low : Low t b t' b'
  p : 0 < b'
  c : HP.cop t' b'
  ft : t.fdiv s = t'
  fb : b.fdiv s = b'
  one : b = s ↔ b' = 1
  ns : s ≠ 0
  ss : s.natAbs ≤ b.natAbs
theorem fdiv_abs {a b : Int} (h : 0 < b) : (a.fdiv b).natAbs ≤ a.natAbs := by
  rw [Int.fdiv_eq_ediv_of_nonneg a (Int.le_of_lt h)]
  by_cases ha : 0 ≤ a
  · have h1 := Int.ediv_le_self b ha
    have h2 := Int.ediv_nonneg ha (Int.le_of_lt h)
    omega
  · have h1 : a ≤ a / b := (Int.le_ediv_iff_mul_le h).mpr (by
      have := Int.mul_le_mul_of_nonneg_left (show 1 ≤ b by omega) (show 0 ≤ -a by omega)
      rw [Int.neg_mul, Int.neg_mul, Int.mul_one] at this
      omega)
    have h2 := Int.ediv_neg_of_neg_of_pos (show a < 0 by omega) h
    omega
theorem fdiv_mul {a s : Int} (hs : s ≠ 0) : (a * s).fdiv s = a := Int.mul_fdiv_cancel a hs
theorem cut_of {t b : Int} (hb : b ≠ 0) : ∃ t' b', Cut t b (gsg t b) t' b' := by
  have hbn : 0 < b.natAbs := by omega
  have hg : 0 < Nat.gcd t.natAbs b.natAbs := Nat.gcd_pos_of_pos_right _ hbn
  have hgt : ((Nat.gcd t.natAbs b.natAbs : Nat) : Int) ∣ t := Int.ofNat_dvd_left.mpr (Nat.gcd_dvd_left _ _)
  have hgb : ((Nat.gcd t.natAbs b.natAbs : Nat) : Int) ∣ b := Int.ofNat_dvd_left.mpr (Nat.gcd_dvd_right _ _)
  have hcop : Nat.gcd (t.natAbs / Nat.gcd t.natAbs b.natAbs) (b.natAbs / Nat.gcd t.natAbs b.natAbs) = 1 := Nat.coprime_div_gcd_div_gcd hg
  have hle : Nat.gcd t.natAbs b.natAbs ≤ b.natAbs := Nat.gcd_le_right _ hbn
  have hs : gsg t b = ((Nat.gcd t.natAbs b.natAbs : Nat) : Int) ∨ gsg t b = -((Nat.gcd t.natAbs b.natAbs : Nat) : Int) := by
    unfold gsg
    split
    · exact .inr rfl
    · exact .inl rfl
  have hsg : (b < 0 → gsg t b < 0) ∧ (0 < b → 0 < gsg t b) := by
    unfold gsg
    constructor
    · intro h
      rw [if_pos h]
      omega
    · intro h
      rw [if_neg (by omega)]
      omega
  have hsn : (gsg t b).natAbs = Nat.gcd t.natAbs b.natAbs := by
    rcases hs with e | e <;> rw [e]
    · exact Int.natAbs_natCast _
    · rw [Int.natAbs_neg]
      exact Int.natAbs_natCast _
  have hst : gsg t b ∣ t := by
    rcases hs with e | e <;> rw [e]
    · exact hgt
    · exact Int.neg_dvd.mpr hgt
  have hsb : gsg t b ∣ b := by
    rcases hs with e | e <;> rw [e]
    · exact hgb
    · exact Int.neg_dvd.mpr hgb
  generalize gsg t b = s at hs hsg hsn hst hsb
  obtain ⟨t', et⟩ := hst
  obtain ⟨b', eb⟩ := hsb
  have sn : s ≠ 0 := by omega
  have et1 : t = t' * s := by rw [et, Int.mul_comm]
  have eb1 : b = b' * s := by rw [eb, Int.mul_comm]
  have nt : t'.natAbs = t.natAbs / Nat.gcd t.natAbs b.natAbs := by
    have e2 : t.natAbs = t'.natAbs * s.natAbs := by
      have := congrArg Int.natAbs et1
      rw [Int.natAbs_mul] at this
      exact this
    rw [← hsn]
    rw [e2]
    exact (Nat.mul_div_cancel _ (by omega)).symm
  have nb : b'.natAbs = b.natAbs / Nat.gcd t.natAbs b.natAbs := by
    have e2 : b.natAbs = b'.natAbs * s.natAbs := by
      have := congrArg Int.natAbs eb1
      rw [Int.natAbs_mul] at this
      exact this
    rw [← hsn]
    rw [e2]
    exact (Nat.mul_div_cancel _ (by omega)).symm
  have hp : 0 < b' := by
    rcases Int.lt_or_gt_of_ne hb with h | h
    · have h2 := hsg.1 h
      rcases Int.lt_trichotomy b' 0 with z | z | z
      · exfalso
        have := Int.mul_pos_of_neg_of_neg z h2
        omega
      · exfalso
        subst z
        omega
      · exact z
    · have h2 := hsg.2 h
      rcases Int.lt_trichotomy b' 0 with z | z | z
      · exfalso
        have := Int.mul_neg_of_neg_of_pos z h2
        omega
      · exfalso
        subst z
        omega
      · exact z
  refine ⟨t', b', ⟨⟨?_, ?_, ?_⟩, hp, ?_, ?_, ?_, ?_, sn, ?_⟩⟩
  · rw [et1, eb1, Int.mul_assoc, Int.mul_comm s b']
  · rw [nt]
    exact Nat.div_le_self _ _
  · rw [nb]
    exact Nat.div_le_self _ _
  · unfold HP.cop
    rw [nt, nb]
    exact hcop
  · rw [et1]
    exact fdiv_mul sn
  · rw [eb1]
    exact fdiv_mul sn
  · constructor
    · intro e
      rw [e] at eb1
      have : 1 * s = b' * s := by rw [Int.one_mul]; exact eb1
      exact (Int.eq_of_mul_eq_mul_right sn this).symm
    · intro e
      rw [e, Int.one_mul] at eb1
      exact eb1
  · omega

/-! ### the box of a law -/
def Box (H : Hp) (bx : Addr) (n : Int) : Prop := ∃ a b c, H bx = some (.lst [.int a, .int b, .int c]) ∧ 0 ≤ a ∧ 0 ≤ b ∧ b < 2147483629 ∧ 0 ≤ c ∧ c ≤ n
theorem Box.same {H H' : Hp} {bx : Addr} {n : Int} (h : Box H bx n) (s : Same H H') : Box H' bx n := by
  obtain ⟨a, b, c, h1, h2⟩ := h
  exact ⟨a, b, c, s _ _ h1, h2⟩
theorem Box.mono {H : Hp} {bx : Addr} {n m : Int} (h : Box H bx n) (l : n ≤ m) : Box H bx m := by
  obtain ⟨a, b, c, h1, h2, h3, h4, h5, h6⟩ := h
  exact ⟨a, b, c, h1, h2, h3, h4, h5, by omega⟩
theorem Box.ne {H : Hp} {bx a : Addr} {n : Int} {xs : List V} (h : Box H bx n) (e : H a = some (.tup xs)) : a ≠ bx := by
  obtain ⟨_, _, _, h1, _⟩ := h
  exact ne_of e h1 (by intro z; cases z)
theorem Box.fresh {H : Hp} {bx p : Addr} {n : Int} (h : Box H bx n) (np : H p = none) : p ≠ bx := fun z => by
  obtain ⟨_, _, _, h, _⟩ := h
  rw [← z, np] at h
  cases h
theorem Num.go {H H' : Hp} {v : V} {t b n : Int} {bx : Addr} (h : Num H v t b) (B : Box H bx n) (s : Go bx H H') : Num H' v t b := by
  rcases h with h | ⟨a, h1, h2, h3⟩
  · exact .inl h
  · exact .inr ⟨a, h1, s _ _ h2 (B.ne h2), h3⟩

/-! ### readings, step by step -/
section
variable {σ : L2.St} {H : Hp} {Q : VK} {v x y : V} {i : Nat} {ta tb te : TE} {K : PySem.W.Frag}
theorem q_var (h : σ[i]? = some (some v)) (q : Q v H) : tVar i σ H Q := ⟨v, h, q⟩
theorem q_c (q : Q v H) : tC v σ H Q := q
theorem q_op {r : R2} (q : ta σ H fun x H1 => tb σ H1 fun y H2 => r x y H2 Q) : tOp r ta tb σ H Q := q
theorem q_un {r : V → Hp → VK → Prop} (q : ta σ H fun x H1 => r x H1 Q) : tUn r ta σ H Q := q
theorem q_I0 {g : Int → Int → V} {a b : Int} (q : Q (g a b) H) : rI0 g (.int a) (.int b) H Q := ⟨a, b, rfl, rfl, q⟩
theorem q_I {C : Int → Int → Prop} {g : Int → Int → V} {a b : Int} (c : C a b) (q : Q (g a b) H) : rI C g (.int a) (.int b) H Q := ⟨a, b, rfl, rfl, c, q⟩
theorem q_U {g : Int → V} {a : Int} (q : Q (g a) H) : rU g (.int a) H Q := ⟨a, rfl, q⟩
theorem q_test {R : Bool → Hp → Prop} (q : te σ H fun x H' => ∃ k, x = .bl k ∧ R k H') : tTest te σ H R := q
theorem q_B {R : Bool → Hp → Prop} (q : te σ H fun x H' => ∃ k, x = .bl k ∧ R k H') : tB te σ H R := q
theorem q_bl {k : Bool} {R : Bool → Prop} (q : R k) : ∃ k', (V.bl k = .bl k') ∧ R k' := ⟨k, rfl, q⟩
theorem q_not {t : TT} {R : Bool → Hp → Prop} (q : t σ H fun c H1 => R (!c) H1) : tNot t σ H R := q
theorem q_and {t u : TT} {R : Bool → Hp → Prop} (q : t σ H fun c H1 => if c = true then u σ H1 R else R false H1) : tAnd t u σ H R := q
theorem q_or {t u : TT} {R : Bool → Hp → Prop} (q : t σ H fun c H1 => if c = true then R true H1 else u σ H1 R) : tOr t u σ H R := q
theorem q_andV (q : ta σ H fun x H1 => ∃ c, x = .bl c ∧ if c = true then tb σ H1 Q else Q (.bl false) H1) : tAndV ta tb σ H Q := q
theorem q_orV (q : ta σ H fun x H1 => ∃ c, x = .bl c ∧ if c = true then Q (.bl true) H1 else tb σ H1 Q) : tOrV ta tb σ H Q := q
theorem q_notV (q : ta σ H fun x H1 => ∃ c, x = .bl c ∧ Q (.bl (!c)) H1) : tNotV ta σ H Q := q
theorem q_ifE {t : TT} (q : t σ H fun c H1 => if c = true then ta σ H1 Q else tb σ H1 Q) : tIf t ta tb σ H Q := q
theorem q_call {n : Nat} {sp : Sp} {t : TA} (q : t σ H fun vs H1 => vs.length = n ∧ sp vs H1 Q E0) : tCal n sp t σ H Q := q
theorem q_callK {n m np : Nat} {sp : Sp} {dvs : List V} {perm : List Nat} {t tk : TA} (q : t σ H fun vs H1 => tk σ H1 fun zs H2 => vs.length = n ∧ zs.length = m ∧ (pick perm (vs ++ (dvs ++ zs))).length = np ∧ sp (pick perm (vs ++ (dvs ++ zs))) H2 Q E0) : tCalK n m np sp dvs perm t tk σ H Q := q
theorem q_len {n : Nat} {vs : List V} {A : Prop} (h : vs.length = n) (q : A) : vs.length = n ∧ A := ⟨h, q⟩
theorem q_cb {r : List V → Hp → VK → Prop} {t : TA} (q : t σ H fun vs H1 => r vs H1 Q) : tCB r t σ H Q := q
theorem q_cons {t : TA} {R : List V → Hp → Prop} (q : te σ H fun x H1 => t σ H1 fun xs H2 => R (x :: xs) H2) : tCons te t σ H R := q
theorem q_nil {R : List V → Hp → Prop} (q : R [] H) : tNil σ H R := q
theorem q_tup {t : TA} (q : t σ H fun xs H1 => xs.length ≤ sizeLine ∧ ∀ p, H1 p = none → Q (.ref p) (upd H1 p (.tup xs))) : tTup t σ H Q := q
theorem q_lst {t : TA} (q : t σ H fun xs H1 => xs.length ≤ sizeLine ∧ ∀ p, H1 p = none → Q (.ref p) (upd H1 p (.lst xs))) : tLst t σ H Q := q
theorem q_disp {xs : List V} {A : Prop} (h : Nat.ble xs.length 1000 = true) (q : A) : xs.length ≤ sizeLine ∧ A := ⟨Nat.le_of_lt (small1000 (Nat.le_of_ble_eq_true h)), q⟩
theorem q_ntT {A B : Prop} (h : B) : if (!true) = true then A else B := h
theorem q_ntF {A B : Prop} (h : A) : if (!false) = true then A else B := h
theorem q_lenT {a : Addr} {xs : List V} (h : SqT K H a xs) (q : Q (.int xs.length) H) : rLenK K [.ref a] H Q := ⟨_, _, rfl, .inr ⟨xs, h, rfl⟩, q⟩
theorem q_lenL {a : Addr} {xs : List V} (h : SqL K H a xs) (q : Q (.int xs.length) H) : rLenK K [.ref a] H Q := ⟨_, _, rfl, .inl ⟨xs, h, rfl⟩, q⟩
variable {D : Ends} {t1 t2 : TS}
theorem q_seq (q : t1 { D with nx := t2 D } σ H) : tSeq t1 t2 D σ H := q
theorem q_asg {g : TG} (q : te σ H fun x H1 => g x σ H1 D.nx) : tAsg te g D σ H := q
theorem q_name {R : L2.St → Hp → Prop} (q : R (σ.set i (some v)) H) : gName i v σ H R := q
theorem q_if {t : TT} (q : t σ H fun b H1 => if b = true then t1 D σ H1 else t2 D σ H1) : tIfS t t1 t2 D σ H := q
theorem q_ret (q : te σ H D.rt) : tRet te D σ H := q
theorem q_drop (q : te σ H fun _ H1 => D.nx σ H1) : tDrop te D σ H := q
theorem q_next (q : D.nx σ H) : tNext D σ H := q
theorem q_cont (q : D.ct σ H) : tCont D σ H := q
theorem q_brk (q : D.bk σ H) : tBreak D σ H := q
theorem q_par {a b : Nat} {t : TA} (q : t σ H fun vs H1 => ∃ v w, vs = [v, w] ∧ D.nx ((σ.set a (some v)).set b (some w)) H1) : tPar a b t D σ H := q
theorem q_two {v w : V} {R : V → V → Prop} (q : R v w) : ∃ v' w', [v, w] = [v', w'] ∧ R v' w' := ⟨v, w, rfl, q⟩
theorem q_gtup {n : Nat} {t : TGs} {a : Addr} {xs : List V} {R : L2.St → Hp → Prop} (h : SqT K H a xs) (l : xs.length = n) (q : t xs σ H R) : gTup K n t (.ref a) σ H R := ⟨a, xs, rfl, h, l, q⟩
theorem q_gcons {t : TG} {u : TGs} {r : List V} {R : L2.St → Hp → Prop} (q : t v σ H fun σ' H' => u r σ' H' R) : gCons t u (v :: r) σ H R := ⟨v, r, rfl, q⟩
theorem q_gnil {R : L2.St → Hp → Prop} (q : R σ H) : gNil [] σ H R := ⟨rfl, q⟩
theorem q_gsub {ta tb : TE} {t : TSet} {R : L2.St → Hp → Prop} (q : ta σ H fun o H1 => tb σ H1 fun i H2 => t o i v H2 fun H3 => R σ H3) : gSub ta tb t v σ H R := q
theorem q_ixL {p : Addr} {xs : List V} {j : Nat} (h : SqL K H p xs) (e : xs[j]? = some v) (q : Q v H) : rIxL K (.ref p) (.int (j : Int)) H Q := ⟨p, xs, j, v, rfl, rfl, h, atI_nat e, q⟩
theorem q_ixT {p : Addr} {xs : List V} {j : Nat} (h : SqT K H p xs) (e : xs[j]? = some v) (q : Q v H) : rIxT K (.ref p) (.int (j : Int)) H Q := ⟨p, xs, j, v, rfl, rfl, h, atI_nat e, q⟩
theorem q_for {wi : TI} {g : TG} {tb : TS} (q : wi σ H fun J H1 => ∃ W : Nat → Nat → L2.St → Hp → Prop, (∃ m, W 0 m σ H1) ∧ ∀ i m σ H, W i m σ H →
  (J.stop i H ∧ D.nx σ H) ∨ (J.go i H ∧ ∃ N : L2.St → Hp → Prop, (∀ σ' H', N σ' H' → ∃ m', m' < m ∧ W (i + 1) m' σ' H') ∧ ∀ x H', J.yld i H x H' → g x σ H' fun σ2 H2 => tb { D with nx := N, ct := N, bk := D.nx } σ2 H2)) : tFor wi g tb D σ H := q
theorem q_rng {ta : TA} {R : It → Hp → Prop} (q : ta σ H fun vs H1 => ∃ j : Int, vs = [.int j] ∧ -(2 ^ 62) ≤ j ∧ j < 2 ^ 62 ∧ R (Itr 0 j.toNat) H1) : iRng1 ta σ H R := q
theorem q_rng1 {n : Int} {R : It → Prop} (h0 : 0 ≤ n) (h1 : n ≤ 100000) (q : R (Itr 0 n.toNat)) : ∃ j : Int, [V.int n] = [.int j] ∧ -(2 ^ 62) ≤ j ∧ j < 2 ^ 62 ∧ R (Itr 0 j.toNat) := ⟨n, rfl, by omega, by omega, q⟩
theorem q_ilst {tl : TE} {R : It → Hp → Prop} (q : tl σ H fun x H1 => ∃ a, x = .ref a ∧ (∃ xs, SqL K H1 a xs) ∧ R (Itl K a) H1) : iList K tl σ H R := q
theorem q_ilst1 {a : Addr} {xs : List V} {R : It → Prop} (h : SqL K H a xs) (q : R (Itl K a)) : ∃ a', V.ref a = .ref a' ∧ (∃ xs, SqL K H a' xs) ∧ R (Itl K a') := ⟨a, rfl, ⟨xs, h⟩, q⟩
theorem q_L0 {p : Addr} {xs : List V} (h : H p = some (.lst xs)) (e : xs[0]? = some v) (q : Q v H) : rIxL K (.ref p) (.int 0) H Q := q_ixL (j := 0) (SqL.of h) e q
theorem q_L1 {p : Addr} {xs : List V} (h : H p = some (.lst xs)) (e : xs[1]? = some v) (q : Q v H) : rIxL K (.ref p) (.int 1) H Q := q_ixL (j := 1) (SqL.of h) e q
theorem q_L2 {p : Addr} {xs : List V} (h : H p = some (.lst xs)) (e : xs[2]? = some v) (q : Q v H) : rIxL K (.ref p) (.int 2) H Q := q_ixL (j := 2) (SqL.of h) e q
theorem q_T0 {p : Addr} {xs : List V} (h : H p = some (.tup xs)) (e : xs[0]? = some v) (q : Q v H) : rIxT K (.ref p) (.int 0) H Q := q_ixT (j := 0) (SqT.of h) e q
theorem q_T1 {p : Addr} {xs : List V} (h : H p = some (.tup xs)) (e : xs[1]? = some v) (q : Q v H) : rIxT K (.ref p) (.int 1) H Q := q_ixT (j := 1) (SqT.of h) e q
theorem q_T2 {p : Addr} {xs : List V} (h : H p = some (.tup xs)) (e : xs[2]? = some v) (q : Q v H) : rIxT K (.ref p) (.int 2) H Q := q_ixT (j := 2) (SqT.of h) e q
/-- an item at a drawn place -/
theorem q_Lat {p : Addr} {xs : List V} {d : Int} (h : H p = some (.lst xs)) (h0 : 0 ≤ d) (h1 : d < xs.length) (q : ∀ v, v ∈ xs → Q v H) : rIxL K (.ref p) (.int d) H Q := by
  obtain ⟨j, rfl⟩ := Int.eq_ofNat_of_zero_le h0
  have hj : j < xs.length := by omega
  exact q_ixL (SqL.of h) (List.getElem?_eq_getElem hj) (q _ (List.getElem_mem hj))
theorem q_set {p : Addr} {xs : List V} {j : Nat} {R : Hp → Prop} (h : H p = some (.lst xs)) (hj : j < xs.length) (q : R (upd H p (.lst (xs.set j v)))) : rSetL (.ref p) (.int (j : Int)) v H R :=
  ⟨p, xs, j, j, rfl, rfl, h, by unfold ixN; rw [if_pos (by omega), if_pos (by omega)]; simp, q⟩
theorem q_eqT {a b : Addr} {i j : Int} (h : H a = some (.tup [.int i, .int j])) (h' : H b = some (.tup [.int i, .int j])) (q : Q (.bl true) H) : rEqD K (.ref a) (.ref b) H Q :=
  ⟨.tuple [.int i, .int j], .tuple [.int i, .int j], .tup (SqT.of h) (.cons (.int _) (.cons (.int _) .nil)), .tup (SqT.of h') (.cons (.int _) (.cons (.int _) .nil)), rfl, rfl, by
    have e : PyData.eqv (.tuple [.int i, .int j]) (.tuple [.int i, .int j]) = true := SeqAt.eqv_refl _ rfl
    rw [e]
    exact q⟩
theorem q_eqI {i : Int} (q : Q (.bl true) H) : rEqD K (.int i) (.int i) H Q := ⟨.int i, .int i, .int _, .int _, rfl, rfl, by
    have e : PyData.eqv (.int i) (.int i) = true := SeqAt.eqv_refl _ rfl
    rw [e]
    exact q⟩
theorem q_dec {p : Prop} [Decidable p] {A B : Prop} (h : p → A) (h' : ¬ p → B) : if decide p = true then A else B := by
  by_cases z : p
  · rw [if_pos (decide_eq_true z)]
    exact h z
  · rw [if_neg (by rw [decide_eq_false z]; exact Bool.false_ne_true)]
    exact h' z
theorem q_decT {p : Prop} [Decidable p] {A B : Prop} (z : p) (h : A) : if decide p = true then A else B := by
  rw [if_pos (decide_eq_true z)]
  exact h
theorem q_decF {p : Prop} [Decidable p] {A B : Prop} (z : ¬ p) (h : B) : if decide p = true then A else B := by
  rw [if_neg (by rw [decide_eq_false z]; exact Bool.false_ne_true)]
  exact h
theorem q_ndec {p : Prop} [Decidable p] {A B : Prop} (h : ¬ p → A) (h' : p → B) : if (!decide p) = true then A else B := by
  by_cases z : p
  · rw [decide_eq_true z, if_neg (by decide)]
    exact h' z
  · rw [decide_eq_false z, if_pos (by decide)]
    exact h z
theorem q_ndecT {p : Prop} [Decidable p] {A B : Prop} (z : ¬ p) (h : A) : if (!decide p) = true then A else B := by
  rw [decide_eq_false z, if_pos (by decide)]
  exact h
theorem q_ndecF {p : Prop} [Decidable p] {A B : Prop} (z : p) (h : B) : if (!decide p) = true then A else B := by
  rw [decide_eq_true z, if_neg (by decide)]
  exact h
theorem k_ii : kitB "int" "int" = some true := by decide +kernel
theorem k_ib : kitB "int" "bool" = some false := by decide +kernel
theorem k_it : kitB "int" "tuple" = some false := by decide +kernel
theorem k_tt : kitB "tuple" "tuple" = some true := by decide +kernel
theorem k_ti : kitB "tuple" "int" = some false := by decide +kernel
theorem q_gcd {a b : Int} (q : Q (.int ((Nat.gcd a.natAbs b.natAbs : Nat) : Int)) H) : rGcd [.int a, .int b] H Q := ⟨a, b, rfl, q⟩
theorem q_isi {x : V} {n m : String} {b : Bool} (ty : TyX K H x (.type n)) (e : kitB n m = some b) (q : Q (.bl b) H) : rIsi K [x, .ty m] H Q := ⟨x, .ty m, _, _, b, rfl, .ty m, ty, kit_ty e, q⟩
theorem q_ii {i : Int} (q : Q (.bl true) H) : rIsi K [.int i, .ty "int"] H Q := q_isi (.base (.int _)) k_ii q
theorem q_ib {i : Int} (q : Q (.bl false) H) : rIsi K [.int i, .ty "bool"] H Q := q_isi (.base (.int _)) k_ib q
theorem q_it {i : Int} (q : Q (.bl false) H) : rIsi K [.int i, .ty "tuple"] H Q := q_isi (.base (.int _)) k_it q
theorem q_tt {a : Addr} {xs : List V} (h : H a = some (.tup xs)) (q : Q (.bl true) H) : rIsi K [.ref a, .ty "tuple"] H Q := q_isi (.base (.tup h)) k_tt q
theorem q_ti {a : Addr} {xs : List V} (h : H a = some (.tup xs)) (q : Q (.bl false) H) : rIsi K [.ref a, .ty "int"] H Q := q_isi (.base (.tup h)) k_ti q
theorem q_abs {i : Int} (q : Q (.int (if i < 0 then -i else i)) H) : rAbs [.int i] H Q := ⟨i, rfl, q⟩
theorem q_max {i j : Int} (q : Q (.int (if j > i then j else i)) H) : rMax [.int i, .int j] H Q := ⟨i, j, rfl, q⟩
theorem q_min {i j : Int} (q : Q (.int (if j < i then j else i)) H) : rMin [.int i, .int j] H Q := ⟨i, j, rfl, q⟩
theorem q_intb {k : Bool} (q : Q (.int (if k then 1 else 0)) H) : rInt [.bl k] H Q := .inr ⟨k, rfl, q⟩
theorem q_inti {i : Int} (q : Q (.int i) H) : rInt [.int i] H Q := .inl ⟨i, rfl, q⟩
end
end HP

namespace HP
open PySem PySem.Spec PyProof.Rows L2
/-! ### what each def promises -/
def spIsInt : Sp := fun vs H Q _ => ∃ i, vs = [.int i] ∧ Q (.bl true) H
def spIsNum : Sp := fun vs H Q _ => ∃ v t b, vs = [v] ∧ Num H v t b ∧ Q (.bl true) H
def spNeed : Sp := fun vs H Q _ => ∃ v t b, vs = [v] ∧ Num H v t b ∧ Q .non H
def spPair : Sp := fun vs H Q _ => ∃ v t b, vs = [v] ∧ Num H v t b ∧ ∀ p H', Same H H' → H' p = some (.tup [.int t, .int b]) → Q (.ref p) H'
def spLow : Sp := fun vs H Q _ => ∃ t b, vs = [.int t, .int b] ∧ b ≠ 0 ∧ Bt 8000 t ∧ Bt 8000 b ∧ ∀ v H' t' b', Same H H' → Num H' v t' b' → Low t b t' b' → Q v H'
def spNeg : Sp := fun vs H Q _ => ∃ v t b, vs = [v] ∧ Num H v t b ∧ ∀ v' H', Same H H' → Num H' v' (-t) b → Q v' H'
def spLess : Sp := fun vs H Q _ => ∃ x y t b s d, vs = [x, y] ∧ Num H x t b ∧ Num H y s d ∧ Bt 4000 t ∧ Bt 4000 b ∧ Bt 4000 s ∧ Bt 4000 d ∧ ∀ H', Same H H' → Q (.bl (decide (t * d < s * b))) H'
def sgn (t : Int) : Int := if t < 0 then -1 else if 0 < t then 1 else 0
def spSign : Sp := fun vs H Q _ => ∃ v t b, vs = [v] ∧ Num H v t b ∧ ∀ H', Same H H' → Q (.int (sgn t)) H'
def spBare : Sp := fun vs H Q _ => ∃ v t b, vs = [v] ∧ Num H v t b ∧ ∀ v' H', Same H H' → Num H' v' (if t < 0 then -t else t) b → Q v' H'
def flo (t b c d : Int) : Int := (t * d).fdiv (b * c) * c
def spFloor : Sp := fun vs H Q _ => ∃ x y t b c d, vs = [x, y] ∧ Num H x t b ∧ Num H y c d ∧ 0 < c ∧ Bt 1000 t ∧ Bt 1000 b ∧ Bt 1000 c ∧ Bt 1000 d ∧ ∀ v H' t' b', Same H H' → Num H' v t' b' → Low (flo t b c d) d t' b' → Q v H'
theorem low_eq {x y t1 b1 t2 b2 : Int} (L1 : Low x y t1 b1) (L2 : Low x y t2 b2) (hy : y ≠ 0) : t1 * b2 = t2 * b1 := by
  have h1 := L1.eq
  have h2 := L2.eq
  refine Int.eq_of_mul_eq_mul_right hy ?_
  rw [Int.mul_assoc, Int.mul_comm b2 y, ← Int.mul_assoc, h1, Int.mul_assoc x b1 b2, Int.mul_comm b1 b2, ← Int.mul_assoc x b2 b1, ← h2, Int.mul_assoc t2 y b1, Int.mul_comm y b1, ← Int.mul_assoc]
/-- the floor of a multiple is it -/
theorem flo_self {c d m t b t' b' : Int} (hb : 0 < b) (hd : 0 < d) (hc : 0 < c) (h : t * d = c * m * b) (h' : t' * d = flo t b c d * b') : t' * b = t * b' := by
  have e : flo t b c d = c * m := by
    unfold flo
    rw [h, show c * m * b = m * (b * c) by rw [Int.mul_comm c m, Int.mul_assoc, Int.mul_comm c b], Int.mul_fdiv_cancel m (by have := Int.mul_pos hb hc; omega), Int.mul_comm]
  rw [e] at h'
  refine Int.eq_of_mul_eq_mul_right (show d ≠ 0 by omega) ?_
  rw [Int.mul_assoc, Int.mul_comm b d, ← Int.mul_assoc, h', Int.mul_assoc t b' d, Int.mul_comm b' d, ← Int.mul_assoc, h, Int.mul_assoc, Int.mul_comm b' b, ← Int.mul_assoc]
theorem q_isint {i : Int} {H : Hp} {Q : VK} {E : XK} (q : Q (.bl true) H) : spIsInt [.int i] H Q E := ⟨i, rfl, q⟩
/-! the law's own -/
def spCell (K : PySem.W.Frag) : Sp := fun vs H Q _ => ∃ (a : Addr) (ns : List Int) (k : Nat), vs = [.ref a, .int (k : Int)] ∧ SqL K H a (ns.map V.int) ∧ k < 1000 ∧ ∀ x, Q (.int x) H
def spBox : Sp := fun vs H Q _ => ∃ x, vs = [.int x] ∧ ∀ p a b, H p = none → 0 ≤ a → 0 ≤ b → b < 2147483629 → Q (.ref p) (upd H p (.lst [.int a, .int b, .int 0]))
def spTake : Sp := fun vs H Q _ => ∃ bx m n, vs = [.ref bx, .int m] ∧ Box H bx n ∧ 0 < m ∧ Bt 300 m ∧ n < 1000000 ∧ ∀ d H', 0 ≤ d → d < m → Go bx H H' → Box H' bx (n + 1) → Q (.int d) H'
def spFar : Sp := fun vs H Q _ => ∃ bx n, vs = [.ref bx] ∧ Box H bx n ∧ n < 900000 ∧ ∀ x H', Bt 110 x → Go bx H H' → Box H' bx (n + 30) → Q (.int x) H'
def spDrawn : Sp := fun vs H Q _ => ∃ bx n, vs = [.ref bx] ∧ Box H bx n ∧ n < 800000 ∧ ∀ v t b H', Num H' v t b → Bt 120 t → Bt 120 b → Go bx H H' → Box H' bx (n + 100) → Q v H'
def spIs : Sp := fun vs H Q _ => ∃ x y t b, vs = [x, y] ∧ Num H x t b ∧ Num H y t b ∧ ∀ H', Same H H' → Q (.bl true) H'
def spIs0 : Sp := fun vs H Q _ => ∃ i, vs = [.int i, .int i] ∧ Q (.bl true) H
def spNear : Sp := fun vs H Q _ => ∃ bx n v t b, vs = [.ref bx, v] ∧ Box H bx n ∧ Num H v t b ∧ Bt 120 t ∧ Bt 120 b ∧ n < 800000 ∧ ∀ v' t' b' H', Num H' v' t' b' → Bt 140 t' → Bt 140 b' → Go bx H H' → Box H' bx (n + 100) → Q v' H'
def spOneR : Sp := fun vs H Q _ => ∃ v t b, vs = [v] ∧ Num H v t b ∧ Bt 140 t ∧ Bt 140 b ∧ ∀ H', Same H H' → Q (.bl true) H'
def spLaw (K : PySem.W.Frag) : Sp := fun vs H Q _ => ∃ (a : Addr) (ns : List Int), vs = [.ref a] ∧ SqL K H a (ns.map V.int) ∧ ns.length ≤ 63 ∧ ∀ H', Q (.bl true) H'
def spStepsR : Sp := fun vs H Q _ => ∃ bx n v t b, vs = [.ref bx, v] ∧ Box H bx n ∧ Num H v t b ∧ Bt 140 t ∧ Bt 140 b ∧ n < 700000 ∧ ∀ H', Go bx H H' → Box H' bx (n + 200) → Q (.bl true) H'
end HP
/-! ### a def whose body wants that nothing is being shown -/
namespace HP
open PySem PySem.Spec PyProof.Rows L2
structure FnG (P : Program) (w : World) (K : PySem.W.Frag) (mg : Str → Option Value) (base : Heap) (k : Nat) (f : Addr) (fd : FuncData) (ps : List Str) (sp : Sp) : Prop where
  len : ∀ vs H Q E, sp vs H Q E → vs.length = ps.length
  run : ∀ (A : Around) (fs : List Env) (s : Shared) (H : Hp) (ar : Args) (us : List Value) (vs : List V) (Q : VK) (E : XK), A.guards = some [] → Room k A → Env0 P w K mg base A fs s H → BindsTo s fd ar (ps.zip us) → Vals vs us → sp vs H Q E →
    codeAny (model P w) A (.call (.ref f) ar) (CR CX0 fs P w H s Q E) s
section
variable {P : Program} {w : World} {K : PySem.W.Frag} {mg : Str → Option Value} {base : Heap}
theorem fnG {x : Str} {st : Stmt} {f : Addr} {fd : FuncData} {N ps : List Str} {k : Nat} {sp : Sp} (F : Fun K x x st f fd) (S : FnScope N ps (defScope st))
    (hb : ∀ (cdv : Value) (A : Around) (fs : List Env) (s : Shared) (H : Hp) (vs : List V) (Q : VK) (E : XK), (A.deeper (envOfC x (defScope st) s.heap.objs.size f cdv)).guards = some [] → Room k (A.deeper (envOfC x (defScope st) s.heap.objs.size f cdv)) → sp vs H Q E →
      ∃ t, PSs (cxOf CX0 P w K mg base N x (defScope st) f cdv A fs s H E).nox (defBody st) t ∧ t { nx := fun _ H' => Q .non H', rt := Q } (start N vs) H) : FnG P w K mg base (k + 1) f fd ps (spN ps.length sp) := by
  obtain ⟨oc, od, kV, doc, pm, an, cdv, ct, osl, rfl, lk, hcd⟩ := F.ex
  refine ⟨fun _ _ _ _ h => h.1, ?_⟩
  intro A fs s H ar us vs Q E hgd hroom env0 bnd rel want
  have inK : K.In s.heap := env0.mod.kin.keeps (fun b o e => (env0.bs b o e).1)
  have noLim : s.heap.NoLimit := env0.mod.nolimit.keeps (fun b o e => (env0.bs b o e).1)
  have params : ∀ y ∈ ps.zip us, (defScope st).names.lookup y.1 = some .local ∨ ((defScope st).names.lookup y.1 = some .cell ∧ ((cellsFrom (s.heap.objs.size + 1) (defScope st).names []).lookup y.1).isSome = true) := by
    rintro ⟨nm, v⟩ hy
    cases S.par nm (List.of_mem_zip hy).1 with
    | inl q => exact Or.inl q
    | inr q => exact Or.inr ⟨q, PySem.W.cellsFrom_some _ _ _ (Or.inl q)⟩
  refine codeAny_call_function hroom.depth (inK _ _ lk) rfl S.co S.gen rfl (PySem.W.codeRec_of inK hcd) (bnd _ _ _ _ ?_)
  refine wpAny_newFunctionEnv_cells S.kind params (fun env eqn s1 inCall => ?_)
  subst eqn
  refine ⟨noLim.keeps inCall.toInCall.keep, codeAny_func ?_⟩
  obtain ⟨t, body, goal⟩ := hb cdv A fs s H vs Q E hgd (hroom.deeper _) want.2
  have J : Inv (cxOf CX0 P w K mg base N x (defScope st) f cdv A fs s H E) [] (start N vs) H s1 := inv_start S hroom.hd env0 want.1 rel inCall
  refine wpAny_mono (body.nox.run [] s1 (start N vs) H _ J goal) ?_ (fun _ _ done => done)
  intro fl s2 done
  cases fl with
  | ret u =>
    obtain ⟨v, σ2, H2, J2, rv, q⟩ := done
    exact ⟨v, H2, J2.os, J2.bare, J2.base, J2.hok, rv, q⟩
  | next =>
    obtain ⟨σ2, H2, J2, q⟩ := done
    exact ⟨V.non, H2, J2.os, J2.bare, J2.base, J2.hok, rfl, q⟩
  | brk => exact absurd done (fun ⟨_, _, _, q⟩ => q)
  | cont => exact absurd done (fun ⟨_, _, _, q⟩ => q)
end
/-- a law's call, where the def is walked under the caller alone -/
theorem callG {P : Program} {w : World} {K : PySem.W.Frag} {mg mb : Str → Option Value} {k : Nat} {fa a : Addr} {fd : FuncData} {x : Str} {sp : Sp} {s : Shared} {vs : List Value} {ns : List Int}
    (inK : K.In s.heap) (glob : s.heap.Ns mainGlobals mg) (blt : s.heap.Ns builtinsNs mb) (bltx : ∀ y : Str, y ≠ "__name__" → mb y = bootBuiltins y) (lim : s.heap.NoLimit) (gens : s.gens = #[])
    (obj : s.heap.get? a = some { cls := .type "list", data := .seq vs.toArray }) (ivs : IntsAre vs ns) (few : ns.length ≤ sizeLine) (room : Room k callerA)
    (F : ∀ base : Heap, K.In base → base.Ns mainGlobals mg → FnG P w K mg base k fa fd [x] sp) (bnd : ∀ (s : Shared) (u : Value), BindsTo s fd ⟨[u], []⟩ [(x, u)])
    (want : ∀ H : Hp, Only H → SqL K H a (ns.map V.int) → sp [.ref a] H (fun v _ => v = .bl true) fun _ _ _ => False) :
    codeAny (model P w) callerA (.call (.ref fa) ⟨[.ref a], []⟩) (fun r s' => r = .ok (.ret (.bool true)) ∧ OldK s.heap s'.heap ∧ s'.os = s.os ∧ AllBare s'.gens) s := by
  have rel := vals_ints ivs
  have len := ivs.length
  suffices step : ∀ H : Hp, Only H → SqL K H a (ns.map V.int) → HOk P w H s.heap → (∀ b u, H b = some u → b = a ∧ K.lookup a = none) →
      codeAny (model P w) callerA (.call (.ref fa) ⟨[.ref a], []⟩) (fun r s' => r = .ok (.ret (.bool true)) ∧ OldK s.heap s'.heap ∧ s'.os = s.os ∧ AllBare s'.gens) s by
    cases hk : K.lookup a with
    | some o =>
      have e := inK a o hk
      rw [obj] at e
      cases e
      exact step (fun _ => none) (fun _ => Or.inl rfl) (Or.inr ⟨_, vs.toArray, _, hk, rfl, rfl, rfl, by rw [List.size_toArray, len]; exact few, by simpa using rel⟩) (fun b u z => nomatch (show (none : Option HO) = some u from z)) (fun b u z => nomatch (show (none : Option HO) = some u from z))
    | none =>
      have only : ∀ b u, (if b = a then some (HO.frz { cls := .type "list", data := .seq vs.toArray } (.lst (ns.map V.int))) else none) = some u → b = a ∧ u = HO.frz { cls := .type "list", data := .seq vs.toArray } (.lst (ns.map V.int)) := by
        intro b u z
        split at z
        · rename_i hb
          exact ⟨hb, (Option.some.inj z).symm⟩
        · cases z
      refine step (fun b => if b = a then some (.frz { cls := .type "list", data := .seq vs.toArray } (.lst (ns.map V.int))) else none) (fun b => ?_) (Or.inl (Or.inr ⟨{ cls := .type "list", data := .seq vs.toArray }, if_pos rfl⟩)) (fun b u z => ?_) (fun b u z => ⟨(only b u z).1, hk⟩)
      · by_cases hb : b = a
        · exact Or.inr ⟨_, _, if_pos hb⟩
        · exact Or.inl (if_neg hb)
      · obtain ⟨rfl, rfl⟩ := only b u z
        exact ⟨obj, by rw [List.length_map]; exact few, vs, _, rel, obj⟩
  intro H ho hs hok only
  have fresh : ∀ {b : Addr} {o : Obj} {es : Array DictEntry} {n : Nat}, s.heap.get? b = some o → o.data = .dict es n → H b = none := by
    intro b o es n e d
    cases q : H b with
    | none => rfl
    | some u =>
      obtain ⟨rfl, _⟩ := only b u q
      rw [obj] at e
      cases e
      exact nomatch (show Data.seq vs.toArray _ = Data.dict es n from d)
  have hid : ∀ {b : Addr} {m : Str → Option Value}, s.heap.Ns b m → (hidT s.heap H).Ns b m := by
    rintro b m ⟨o, es, n, e, d, r⟩
    exact ⟨o, es, n, hidT_get e (fresh e d), d, r⟩
  have inKb : K.In (hidT s.heap H) := by
    intro b o e
    refine hidT_get (inK b o e) ?_
    cases q : H b with
    | none => rfl
    | some u =>
      obtain ⟨rfl, hk⟩ := only b u q
      rw [hk] at e
      cases e
  have md : Mod K mg (hidT s.heap H) := ⟨inKb, hid glob, ⟨mb, hid blt, bltx⟩, by
    obtain ⟨mc, h1, h2⟩ := lim
    exact ⟨mc, hid h1, h2⟩⟩
  have env0 : Env0 P w K mg (hidT s.heap H) callerA [] s H := ⟨rfl, md, fun b o e => of_hidT e, Nat.le_of_eq (hidT_size _ _), trivial, fun b hb => absurd (show b ∈ ([] : List Addr) from hb) List.not_mem_nil, hok, .of_eq gens⟩
  refine codeAny_mono ((F _ inKb (hid glob)).run callerA [] s H ⟨[.ref a], []⟩ [.ref a] [.ref a] _ _ rfl room env0 (bnd s (.ref a)) (.cons rfl .nil) (want H ho hs)) ?_
  intro r s' done
  match r, done with
  | .error _, z => exact False.elim z
  | .ok .next, z => exact False.elim z
  | .ok .brk, z => exact False.elim z
  | .ok .cont, z => exact False.elim z
  | .ok (.ret u), ⟨v, H', os, bare, un, hok', rv, q⟩ =>
    have q' : v = .bl true := q
    subst q'
    obtain rfl : u = Value.bool true := rv
    refine ⟨rfl, OldK.of_keep (fun b o e => ?_), os, bare⟩
    cases q : H b with
    | none => exact un.keep b o e q (fun z => absurd (show b ∈ ([] : List Addr) from z) List.not_mem_nil) List.not_mem_nil
    | some u =>
      cases ho b with
      | inl z => rw [q] at z; cases z
      | inr z =>
        obtain ⟨ob, xs, z⟩ := z
        have e1 := (hok b _ z).1
        have e2 := (hok' b _ (un.frzs b ob _ z)).1
        rw [e] at e1
        cases e1
        exact e2
/-- the goal that k_head leaves, by such a promise -/
theorem walkG {l : PySem.W.OpenLaw} {n k : Nat} {q : Program} {loose : List Str} {XP : (Str → Option Value) → Heap → Prop} {YP : World → Heap → Prop} {d : DefRec} {K : Params → PySem.W.Frag} {sp : World → Sp} {x : Str}
    (most : l.most = some n) (few : n ≤ sizeLine) (nodef : d.params.defaults = []) (room : Room k callerA) (inK : ∀ (w : World) (h : Heap), YP w h → (K w.params).In h)
    (F : ∀ (w : World) (mg : Str → Option Value) (fa : Addr) (h : Heap), (K w.params).In h → h.Ns mainGlobals mg → mg d.name = some (.ref fa) →
      ∃ fd : FuncData, (∀ (s : Shared) (u : Value), BindsTo s fd ⟨[u], []⟩ [(x, u)]) ∧ ∀ base : Heap, (K w.params).In base → base.Ns mainGlobals mg → FnG l.prog w (K w.params) mg base k fa fd [x] (sp w))
    (want : ∀ (w : World) (H : Hp) (a : Addr) (ns : List Int), ns.length ≤ n → Only H → SqL (K w.params) H a (ns.map V.int) → sp w [.ref a] H (fun v _ => v = .bl true) fun _ _ _ => False) :
    PySem.W.WalkO q loose XP YP l.row.toRowW d [] (fun f vs => PySem.call f vs) := by
  refine Att.attach_call most nodef ?_
  intro w s0 s1 mg mb fa o pm cd doc a vs ns G Y ho hd hcd gl obj ivs small gens
  obtain ⟨fd, bnd, walk⟩ := F w mg fa _ (inK w _ Y) G.T.g gl
  exact callG (inK w _ Y) G.T.g G.T.b G.T.builtins G.T.nolimit gens obj ivs (Nat.le_trans small few) room walk bnd (fun H only sq => want w H a ns small only sq)

/-! ### what is shown of data -/
section
variable {X : Cx}
def rRepr (K : PySem.W.Frag) : List V → Hp → VK → Prop := fun xs H Q => ∃ a d, xs = [.ref a] ∧ Dp K H (.ref a) d ∧ d.showable = true ∧ d.hasDict = false ∧ d.depth ≤ 60 ∧ d.shown.length ≤ sizeLine ∧ Q (.str d.shown) H
theorem call_reprD (hg : X.A.guards = some []) (hu : X.A.units + 64 < cLine) : CallR X (.builtin "repr") (rRepr X.K) := by
  intro pins s σ H xs us Q I r h
  obtain ⟨a, d, rfl, hd, hs, nd, dep, sz, q⟩ := h
  obtain ⟨u, rfl, rx⟩ := vals1 r
  cases (show u = Value.ref a from rx)
  obtain ⟨as, rd⟩ := Dp.reads I d _ _ hd rfl
  exact repr_of_reads' rd hs (fun z => by rw [nd] at z; cases z) hg (by omega) (fun _ _ e => e) (fun h' u tk k => ⟨.str d.shown, H, I.kept k, ⟨u, rfl⟩, q⟩) sz
theorem q_reprB {K : PySem.W.Frag} {H : Hp} {Q : VK} {a : Addr} {b1 b2 : Bool} (h : H a = some (.lst [.bl b1, .bl b2])) (q : Q (.str (PyData.list [.bool b1, .bool b2]).shown) H) : rRepr K [.ref a] H Q :=
  ⟨a, .list [.bool b1, .bool b2], rfl, .lst (SqL.of h) (.cons (.bl _) (.cons (.bl _) .nil)), rfl, rfl, (by cases b1 <;> cases b2 <;> decide), (by cases b1 <;> cases b2 <;> decide +kernel), q⟩
theorem q_neS {H : Hp} {Q : VK} {x : Str} (q : Q (.bl false) H) : rNe (.str x) (.str x) H Q := ⟨rfl, by rw [decide_eq_true rfl]; exact q⟩
theorem Go.same {bx : Addr} {H H' : Hp} (h : H bx = none) (g : Go bx H H') : Same H H' := fun b o e => g b o e (ne_of_none e h)
end
end HP
namespace HP
open PySem PySem.Spec PyProof.Rows L2
local macro_rules | `(tactic| walk_at "rd1") => `(tactic| first
  | ((with_reducible refine' q_var ?hv ?_); (case hv => exact rfl))
  | (with_reducible refine' q_c ?_)
  | (with_reducible refine' q_op ?_)
  | (with_reducible refine' q_un ?_)
  | (with_reducible refine' q_I0 ?_)
  | (with_reducible refine' q_U ?_)
  | (with_reducible refine' q_bl ?_)
  | (with_reducible refine' iteT ?_)
  | (with_reducible refine' iteF ?_)
  | (with_reducible refine' q_ntT ?_)
  | (with_reducible refine' q_ntF ?_)
  | (with_reducible refine' q_cons ?_)
  | (with_reducible refine' q_nil ?_)
  | (with_reducible refine' q_cb ?_)
  | (with_reducible refine' q_call ?_)
  | (with_reducible refine' q_callK ?_)
  | ((with_reducible refine' q_len ?hl ?_); (case hl => exact rfl))
  | (with_reducible refine' q_seq ?_)
  | (with_reducible refine' q_asg ?_)
  | (with_reducible refine' q_name ?_)
  | (with_reducible refine' q_if ?_)
  | (with_reducible refine' q_ret ?_)
  | (with_reducible refine' q_test ?_)
  | (with_reducible refine' q_B ?_)
  | (with_reducible refine' q_not ?_)
  | (with_reducible refine' q_and ?_)
  | (with_reducible refine' q_or ?_)
  | (with_reducible refine' q_andV ?_)
  | (with_reducible refine' q_orV ?_)
  | (with_reducible refine' q_notV ?_)
  | (with_reducible refine' q_ifE ?_)
  | (with_reducible refine' q_tup ?_)
  | (with_reducible refine' q_lst ?_)
  | (with_reducible refine' q_drop ?_)
  | (with_reducible refine' q_next ?_)
  | (with_reducible refine' q_par ?_)
  | (with_reducible refine' q_two ?_)
  | (with_reducible refine' q_gcons ?_)
  | (with_reducible refine' q_gnil ?_)
  | (with_reducible refine' q_gsub ?_)
  | (with_reducible refine' q_ii ?_)
  | (with_reducible refine' q_ib ?_)
  | (with_reducible refine' q_it ?_)
  | (with_reducible refine' q_gcd ?_)
  | (with_reducible refine' q_abs ?_)
  | (with_reducible refine' q_max ?_)
  | (with_reducible refine' q_min ?_)
  | (with_reducible refine' q_intb ?_)
  | (with_reducible refine' q_inti ?_)
  | (with_reducible refine' q_isint ?_)
  | (with_reducible refine' q_for ?_)
  | (with_reducible refine' q_rng ?_)
  | (with_reducible refine' q_ilst ?_)
  | (with_reducible refine' q_cont ?_)
  | (with_reducible refine' q_eqI ?_)
  | ((with_reducible refine' q_L0 ?hq ?hl ?_); (case hq => assumption); (case hl => exact rfl))
  | ((with_reducible refine' q_L1 ?hq ?hl ?_); (case hq => assumption); (case hl => exact rfl))
  | ((with_reducible refine' q_L2 ?hq ?hl ?_); (case hq => assumption); (case hl => exact rfl))
  | ((with_reducible refine' q_T0 ?hq ?hl ?_); (case hq => assumption); (case hl => exact rfl))
  | ((with_reducible refine' q_T1 ?hq ?hl ?_); (case hq => assumption); (case hl => exact rfl))
  | ((with_reducible refine' q_T2 ?hq ?hl ?_); (case hq => assumption); (case hl => exact rfl))
  | ((with_reducible refine' q_eqT ?hq ?hl ?_); (case hq => assumption); (case hl => assumption))
  | ((with_reducible refine' q_disp ?hz ?_); (case hz => exact rfl))
  | ((with_reducible refine' q_gtup ?hq ?hl ?_); (case hq => exact SqT.of (by assumption)); (case hl => exact rfl))
  | ((with_reducible refine' q_tt ?hq ?_); (case hq => assumption))
  | ((with_reducible refine' q_ti ?hq ?_); (case hq => assumption))
  | ((with_reducible refine' q_lenT ?hq ?_); (case hq => exact SqT.of (by assumption)))
  | ((with_reducible refine' q_decT ?hq ?_); (case hq => first | rfl | omega | decide))
  | ((with_reducible refine' q_decF ?hq ?_); (case hq => first | rfl | omega | decide))
  | ((with_reducible refine' q_ndecT ?hq ?_); (case hq => first | rfl | omega | decide))
  | ((with_reducible refine' q_ndecF ?hq ?_); (case hq => first | rfl | omega | decide)))
local macro_rules | `(tactic| walk_at "rd") => `(tactic| repeat (walk_at "rd1"))
def topS (i : Nat) : Stmt := PySem.Challenge.pw_hintedpoints_k03_numbers_compared.main.body.getD i (.Pass ⟨0, 0, 0, 0⟩)
structure Bl (mg : Str → Option Value) : Prop where
  b_isinstance : mg "isinstance" = none
  b_bool : mg "bool" = none
  b_int : mg "int" = none
  b_gcd : mg "gcd" = some (.builtin "math.gcd")
  b_len : mg "len" = none
  b_tuple : mg "tuple" = none
  b_max : mg "max" = none
  b_range : mg "range" = none
  b_abs : mg "abs" = none
  b_min : mg "min" = none
  b_repr : mg "repr" = none
section
variable {P : Program} {w : World} {K : PySem.W.Frag} {mg : Str → Option Value} {base : Heap}

abbrev s_is_int : Stmt := topS 5
theorem sc_is_int : FnScope ["thing"] ["thing"] (defScope s_is_int) := ⟨rfl, rfl, rfl, by decide +kernel, rfl, by decide +kernel, by decide +kernel⟩
theorem fn_is_int {f : Addr} {fd : FuncData} (F : Fun K "is_int" "is_int" s_is_int f fd) (B : Bl mg)  : FnOk P w K mg base CX0 1 f fd ["thing"] (spN 1 spIsInt) := by
  refine fnN F sc_is_int (fun cdv A outer s H vs Q E hr h => ?_)
  obtain ⟨i, rfl, q⟩ := h
  refine ⟨_, (pss_one (ps_ret (pe_and (pe_callB call_isi (by rfl) B.b_isinstance (by decide +kernel) (pa_cons (pv 0) (pa_cons (pe_bltn (v := .ty "int") (by rfl) B.b_int (by decide +kernel) rfl) pa_nil))) (pe_one (pe_not (pe_callB call_isi (by rfl) B.b_isinstance (by decide +kernel) (pa_cons (pv 0) (pa_cons (pe_bltn (v := .ty "bool") (by rfl) B.b_bool (by decide +kernel) rfl) pa_nil)))))))), ?_⟩
  walk_at "rd"
  exact q

abbrev s_is_number : Stmt := topS 6
theorem sc_is_number : FnScope ["thing", "top", "base"] ["thing"] (defScope s_is_number) := ⟨rfl, rfl, rfl, by decide +kernel, rfl, by decide +kernel, by decide +kernel⟩
theorem fn_is_number {f : Addr} {fd : FuncData} (F : Fun K "is_number" "is_number" s_is_number f fd) (B : Bl mg) (c_is_int : Cal P w K mg base 1 "is_int" ["thing"] spIsInt) : FnOk P w K mg base CX0 2 f fd ["thing"] (spN 1 spIsNum) := by
  refine fnN F sc_is_number (fun cdv A outer s H vs Q E hr h => ?_)
  obtain ⟨v, t, b, rfl, N, q⟩ := h
  refine ⟨_, (pss_cons (ps_if (pt_not (pt_val (pe_callB call_isi (by rfl) B.b_isinstance (by decide +kernel) (pa_cons (pv 0) (pa_cons (pe_bltn (v := .ty "tuple") (by rfl) B.b_tuple (by decide +kernel) rfl) pa_nil))))) (pss_one (ps_ret (pe_cal c_is_int hr (by decide) (by rfl) (pa_cons (pv 0) pa_nil)))) pss_nil)
      (pss_cons (ps_if (pt_cmpR op_neI (pe_callB call_lenK (by rfl) B.b_len (by decide +kernel) (pa_cons (pv 0) pa_nil)) pe_int (nomark _)) (pss_one (ps_ret pe_bl)) pss_nil)
      (pss_cons (ps_asg (pv 0) (pg_tup (by rfl) (pgs_cons (pg_name (i := 1) sc_is_number.nd rfl (.inl rfl)) (pgs_cons (pg_name (i := 2) sc_is_number.nd rfl (.inl rfl)) pgs_nil))))
      (pss_one (ps_ret (pe_and (pe_cal c_is_int hr (by decide) (by rfl) (pa_cons (pv 1) pa_nil)) (pe_and (pe_cal c_is_int hr (by decide) (by rfl) (pa_cons (pv 2) pa_nil)) (pe_and (pe_cmpR op_ge (pv 2) pe_int (nomark _)) (pe_one (pe_cmpR op_eqI (pe_callBfun cr_gcd (by rfl) B.b_gcd (pa_cons (pv 1) (pa_cons (pv 2) pa_nil))) pe_int (nomark _))))))))))), ?_⟩
  rcases N with ⟨rfl, rfl⟩ | ⟨a, rfl, ha, hb, hc⟩
  · walk_at "rd"
    exact q
  · walk_at "rd"
    have e : ((Nat.gcd t.natAbs b.natAbs : Nat) : Int) = 1 := by
      rw [show Nat.gcd t.natAbs b.natAbs = 1 from hc]
      rfl
    rw [decide_eq_true e]
    exact q

abbrev s_need_number : Stmt := topS 7
theorem sc_need_number : FnScope ["thing"] ["thing"] (defScope s_need_number) := ⟨rfl, rfl, rfl, by decide +kernel, rfl, by decide +kernel, by decide +kernel⟩
theorem fn_need_number {f : Addr} {fd : FuncData} (F : Fun K "need_number" "need_number" s_need_number f fd) (B : Bl mg) (c_is_number : Cal P w K mg base 2 "is_number" ["thing"] spIsNum) : FnOk P w K mg base CX0 3 f fd ["thing"] (spN 1 spNeed) := by
  refine fnN F sc_need_number (fun cdv A outer s H vs Q E hr h => ?_)
  obtain ⟨v, t, b, rfl, N, q⟩ := h
  refine ⟨_, (pss_one (ps_if (pt_not (pt_val (pe_cal c_is_number hr (by decide) (by rfl) (pa_cons (pv 0) pa_nil)))) (pss_one ps_never) pss_nil)), ?_⟩
  walk_at "rd"
  refine ⟨v, t, b, rfl, N, ?_⟩
  walk_at "rd"
  exact q

abbrev s_pair_of : Stmt := topS 8
theorem sc_pair_of : FnScope ["number"] ["number"] (defScope s_pair_of) := ⟨rfl, rfl, rfl, by decide +kernel, rfl, by decide +kernel, by decide +kernel⟩
theorem fn_pair_of {f : Addr} {fd : FuncData} (F : Fun K "pair_of" "pair_of" s_pair_of f fd) (B : Bl mg)  : FnOk P w K mg base CX0 1 f fd ["number"] (spN 1 spPair) := by
  refine fnN F sc_pair_of (fun cdv A outer s H vs Q E hr h => ?_)
  obtain ⟨v, t, b, rfl, N, q⟩ := h
  refine ⟨_, (pss_cons (ps_if (pt_val (pe_callB call_isi (by rfl) B.b_isinstance (by decide +kernel) (pa_cons (pv 0) (pa_cons (pe_bltn (v := .ty "tuple") (by rfl) B.b_tuple (by decide +kernel) rfl) pa_nil)))) (pss_one (ps_ret (pv 0))) pss_nil)
      (pss_one (ps_ret (pe_tup (pa_cons (pv 0) (pa_cons pe_int pa_nil)))))), ?_⟩
  rcases N with ⟨rfl, rfl⟩ | ⟨a, rfl, ha, hb, hc⟩
  · walk_at "rd"
    exact fun p np => q p _ (Same.up np) upd_same
  · walk_at "rd"
    exact q a H (Same.refl H) ha

abbrev s_lowest : Stmt := topS 9
theorem sc_lowest : FnScope ["top", "base", "shared"] ["top", "base"] (defScope s_lowest) := ⟨rfl, rfl, rfl, by decide +kernel, rfl, by decide +kernel, by decide +kernel⟩
theorem fn_lowest {f : Addr} {fd : FuncData} (F : Fun K "lowest" "lowest" s_lowest f fd) (B : Bl mg)  : FnOk P w K mg base CX0 1 f fd ["top", "base"] (spN 2 spLow) := by
  refine fnN F sc_lowest (fun cdv A outer s H vs Q E hr h => ?_)
  obtain ⟨t, b, rfl, hb, B1, B2, q⟩ := h
  refine ⟨_, (pss_cons (ps_set (i := 2) sc_lowest.nd rfl (.inl rfl) (pe_callBfun cr_gcd (by rfl) B.b_gcd (pa_cons (pv 0) (pa_cons (pv 1) pa_nil))))
      (pss_cons (ps_if (pt_cmpR op_lt (pv 1) pe_int (nomark _)) (pss_one (ps_set (i := 2) sc_lowest.nd rfl (.inl rfl) (pe_un un_neg (pv 2)))) pss_nil)
      (pss_cons (ps_if (pt_cmpR op_eqI (pv 1) (pv 2) (nomark _)) (pss_one (ps_ret (pe_op op_fdivA (pv 0) (pv 2)))) pss_nil)
      (pss_one (ps_ret (pe_tup (pa_cons (pe_op op_fdivA (pv 0) (pv 2)) (pa_cons (pe_op op_fdivA (pv 1) (pv 2)) pa_nil)))))))), ?_⟩
  obtain ⟨t', b', C⟩ := cut_of (t := t) hb
  walk_at "rd"
  refine q_dec (fun e0 => ?_) (fun e0 => ?_)
  · have es : gsg t b = -((Nat.gcd t.natAbs b.natAbs : Nat) : Int) := by
      unfold gsg
      rw [if_pos e0]
    rw [es] at C
    have dv := divA (i := t) C.ns (B2.le C.ss) (by decide)
    have dv2 := divA (i := b) C.ns (B2.le C.ss) (by decide)
    walk_at "rd"
    refine q_dec (fun e => ?_) (fun e => ?_)
    · walk_at "rd"
      refine q_I dv ?_
      rw [C.ft]
      refine q _ _ _ _ (Same.refl H) (.inl ⟨rfl, C.one.mp e⟩) C.low
    · walk_at "rd"
      refine q_I dv ?_
      walk_at "rd"
      refine q_I dv2 ?_
      walk_at "rd"
      intro p np
      rw [C.ft, C.fb]
      have h1 : b' ≠ 1 := fun z => e (C.one.mpr z)
      have h2 := C.p
      exact q _ _ _ _ (Same.up np) (.inr ⟨p, rfl, upd_same, by omega, C.c⟩) C.low
  · have es : gsg t b = ((Nat.gcd t.natAbs b.natAbs : Nat) : Int) := by
      unfold gsg
      rw [if_neg e0]
    rw [es] at C
    have dv := divA (i := t) C.ns (B2.le C.ss) (by decide)
    have dv2 := divA (i := b) C.ns (B2.le C.ss) (by decide)
    walk_at "rd"
    refine q_dec (fun e => ?_) (fun e => ?_)
    · walk_at "rd"
      refine q_I dv ?_
      rw [C.ft]
      refine q _ _ _ _ (Same.refl H) (.inl ⟨rfl, C.one.mp e⟩) C.low
    · walk_at "rd"
      refine q_I dv ?_
      walk_at "rd"
      refine q_I dv2 ?_
      walk_at "rd"
      intro p np
      rw [C.ft, C.fb]
      have h1 : b' ≠ 1 := fun z => e (C.one.mpr z)
      have h2 := C.p
      exact q _ _ _ _ (Same.up np) (.inr ⟨p, rfl, upd_same, by omega, C.c⟩) C.low

abbrev s__negated : Stmt := topS 10
theorem sc__negated : FnScope ["number", "top", "base"] ["number"] (defScope s__negated) := ⟨rfl, rfl, rfl, by decide +kernel, rfl, by decide +kernel, by decide +kernel⟩
theorem fn__negated {f : Addr} {fd : FuncData} (F : Fun K "_negated" "_negated" s__negated f fd) (B : Bl mg) (c_pair_of : Cal P w K mg base 1 "pair_of" ["number"] spPair) : FnOk P w K mg base CX0 2 f fd ["number"] (spN 1 spNeg) := by
  refine fnN F sc__negated (fun cdv A outer s H vs Q E hr h => ?_)
  obtain ⟨v, t, b, rfl, N, q⟩ := h
  refine ⟨_, (pss_cons (ps_asg (pe_cal c_pair_of hr (by decide) (by rfl) (pa_cons (pv 0) pa_nil)) (pg_tup (by rfl) (pgs_cons (pg_name (i := 1) sc__negated.nd rfl (.inl rfl)) (pgs_cons (pg_name (i := 2) sc__negated.nd rfl (.inl rfl)) pgs_nil))))
      (pss_cons (ps_if (pt_cmpR op_eqI (pv 2) pe_int (nomark _)) (pss_one (ps_ret (pe_un un_neg (pv 1)))) pss_nil)
      (pss_one (ps_ret (pe_tup (pa_cons (pe_un un_neg (pv 1)) (pa_cons (pv 2) pa_nil))))))), ?_⟩
  walk_at "rd"
  refine ⟨v, t, b, rfl, N, fun p H1 S1 hp => ?_⟩
  walk_at "rd"
  refine q_dec (fun e => ?_) (fun e => ?_)
  · walk_at "rd"
    subst e
    exact q _ _ S1 (.inl ⟨rfl, rfl⟩)
  · walk_at "rd"
    intro p2 np
    have := N.pos
    have hc : cop (-t) b := by
      unfold cop
      rw [Int.natAbs_neg]
      exact N.cop
    exact q _ _ (S1.trans (Same.up np)) (.inr ⟨p2, rfl, upd_same, by omega, hc⟩)

abbrev s__is_less : Stmt := topS 11
theorem sc__is_less : FnScope ["one", "other", "top", "base", "other_top", "other_base"] ["one", "other"] (defScope s__is_less) := ⟨rfl, rfl, rfl, by decide +kernel, rfl, by decide +kernel, by decide +kernel⟩
theorem fn__is_less {f : Addr} {fd : FuncData} (F : Fun K "_is_less" "_is_less" s__is_less f fd) (B : Bl mg) (c_pair_of : Cal P w K mg base 1 "pair_of" ["number"] spPair) : FnOk P w K mg base CX0 2 f fd ["one", "other"] (spN 2 spLess) := by
  refine fnN F sc__is_less (fun cdv A outer s H vs Q E hr h => ?_)
  obtain ⟨x, y, t, b, s0, d, rfl, N1, N2, B1, B2, B3, B4, q⟩ := h
  refine ⟨_, (pss_cons (ps_asg (pe_cal c_pair_of hr (by decide) (by rfl) (pa_cons (pv 0) pa_nil)) (pg_tup (by rfl) (pgs_cons (pg_name (i := 2) sc__is_less.nd rfl (.inl rfl)) (pgs_cons (pg_name (i := 3) sc__is_less.nd rfl (.inl rfl)) pgs_nil))))
      (pss_cons (ps_asg (pe_cal c_pair_of hr (by decide) (by rfl) (pa_cons (pv 1) pa_nil)) (pg_tup (by rfl) (pgs_cons (pg_name (i := 4) sc__is_less.nd rfl (.inl rfl)) (pgs_cons (pg_name (i := 5) sc__is_less.nd rfl (.inl rfl)) pgs_nil))))
      (pss_one (ps_ret (pe_cmpR op_lt (pe_op op_mulW (pv 2) (pv 5)) (pe_op op_mulW (pv 4) (pv 3)) (nomark _)))))), ?_⟩
  walk_at "rd"
  refine ⟨x, t, b, rfl, N1, fun p H1 S1 hp => ?_⟩
  walk_at "rd"
  refine ⟨y, s0, d, rfl, N2.same S1, fun p2 H2 S2 hp2 => ?_⟩
  walk_at "rd"
  refine q_I (mulW B1 B4 (by decide)) ?_
  walk_at "rd"
  refine q_I (mulW B3 B2 (by decide)) ?_
  walk_at "rd"
  exact q H2 (S1.trans S2)

abbrev s_sign_of : Stmt := topS 12
theorem sc_sign_of : FnScope ["number", "top", "_"] ["number"] (defScope s_sign_of) := ⟨rfl, rfl, rfl, by decide +kernel, rfl, by decide +kernel, by decide +kernel⟩
theorem fn_sign_of {f : Addr} {fd : FuncData} (F : Fun K "sign_of" "sign_of" s_sign_of f fd) (B : Bl mg) (c_pair_of : Cal P w K mg base 1 "pair_of" ["number"] spPair) (c_need_number : Cal P w K mg base 3 "need_number" ["thing"] spNeed) : FnOk P w K mg base CX0 4 f fd ["number"] (spN 1 spSign) := by
  refine fnN F sc_sign_of (fun cdv A outer s H vs Q E hr h => ?_)
  obtain ⟨v, t, b, rfl, N, q⟩ := h
  refine ⟨_, (pss_cons (ps_expr (pe_cal c_need_number hr (by decide) (by rfl) (pa_cons (pv 0) pa_nil)))
      (pss_cons (ps_asg (pe_cal c_pair_of hr (by decide) (by rfl) (pa_cons (pv 0) pa_nil)) (pg_tup (by rfl) (pgs_cons (pg_name (i := 1) sc_sign_of.nd rfl (.inl rfl)) (pgs_cons (pg_name (i := 2) sc_sign_of.nd rfl (.inl rfl)) pgs_nil))))
      (pss_cons (ps_if (pt_cmpR op_lt (pv 1) pe_int (nomark _)) (pss_one (ps_ret (pe_un un_neg pe_int))) pss_nil)
      (pss_cons (ps_if (pt_cmpR op_gt (pv 1) pe_int (nomark _)) (pss_one (ps_ret pe_int)) pss_nil)
      (pss_one (ps_ret pe_int)))))), ?_⟩
  walk_at "rd"
  refine ⟨v, t, b, rfl, N, ?_⟩
  walk_at "rd"
  refine ⟨v, t, b, rfl, N, fun p H1 S1 hp => ?_⟩
  walk_at "rd"
  have q' := q H1 S1
  unfold sgn at q'
  refine q_dec (fun e => ?_) (fun e => ?_)
  · walk_at "rd"
    rw [if_pos e] at q'
    exact q'
  · rw [if_neg e] at q'
    walk_at "rd"
    refine q_dec (fun e => ?_) (fun e => ?_)
    · walk_at "rd"
      rw [if_pos e] at q'
      exact q'
    · rw [if_neg e] at q'
      walk_at "rd"
      exact q'

abbrev s_bare_of : Stmt := topS 13
theorem sc_bare_of : FnScope ["number"] ["number"] (defScope s_bare_of) := ⟨rfl, rfl, rfl, by decide +kernel, rfl, by decide +kernel, by decide +kernel⟩
theorem fn_bare_of {f : Addr} {fd : FuncData} (F : Fun K "bare_of" "bare_of" s_bare_of f fd) (B : Bl mg) (c_sign_of : Cal P w K mg base 4 "sign_of" ["number"] spSign) (c__negated : Cal P w K mg base 2 "_negated" ["number"] spNeg) : FnOk P w K mg base CX0 5 f fd ["number"] (spN 1 spBare) := by
  refine fnN F sc_bare_of (fun cdv A outer s H vs Q E hr h => ?_)
  obtain ⟨v, t, b, rfl, N, q⟩ := h
  refine ⟨_, (pss_cons (ps_if (pt_cmpR op_lt (pe_cal c_sign_of hr (by decide) (by rfl) (pa_cons (pv 0) pa_nil)) pe_int (nomark _)) (pss_one (ps_ret (pe_cal c__negated hr (by decide) (by rfl) (pa_cons (pv 0) pa_nil)))) pss_nil)
      (pss_one (ps_ret (pv 0)))), ?_⟩
  walk_at "rd"
  refine ⟨v, t, b, rfl, N, fun H1 S1 => ?_⟩
  walk_at "rd"
  refine q_dec (fun e => ?_) (fun e => ?_)
  · have h : t < 0 := by
      unfold sgn at e
      split at e
      · assumption
      · split at e <;> omega
    walk_at "rd"
    refine ⟨v, t, b, rfl, N.same S1, fun v' H2 S2 N2 => ?_⟩
    refine q _ _ (S1.trans S2) ?_
    rw [if_pos h]
    exact N2
  · have h : ¬ t < 0 := by
      unfold sgn at e
      split at e
      · omega
      · assumption
    walk_at "rd"
    refine q _ _ S1 ?_
    rw [if_neg h]
    exact N.same S1

abbrev s_less : Stmt := topS 14
theorem sc_less : FnScope ["one", "other"] ["one", "other"] (defScope s_less) := ⟨rfl, rfl, rfl, by decide +kernel, rfl, by decide +kernel, by decide +kernel⟩
theorem fn_less {f : Addr} {fd : FuncData} (F : Fun K "less" "less" s_less f fd) (B : Bl mg) (c__is_less : Cal P w K mg base 2 "_is_less" ["one", "other"] spLess) (c_need_number : Cal P w K mg base 3 "need_number" ["thing"] spNeed) : FnOk P w K mg base CX0 4 f fd ["one", "other"] (spN 2 spLess) := by
  refine fnN F sc_less (fun cdv A outer s H vs Q E hr h => ?_)
  obtain ⟨x, y, t, b, s0, d, rfl, N1, N2, B1, B2, B3, B4, q⟩ := h
  refine ⟨_, (pss_cons (ps_expr (pe_cal c_need_number hr (by decide) (by rfl) (pa_cons (pv 0) pa_nil)))
      (pss_cons (ps_expr (pe_cal c_need_number hr (by decide) (by rfl) (pa_cons (pv 1) pa_nil)))
      (pss_one (ps_ret (pe_cal c__is_less hr (by decide) (by rfl) (pa_cons (pv 0) (pa_cons (pv 1) pa_nil))))))), ?_⟩
  walk_at "rd"
  refine ⟨x, t, b, rfl, N1, ?_⟩
  walk_at "rd"
  refine ⟨y, s0, d, rfl, N2, ?_⟩
  walk_at "rd"
  exact ⟨x, y, t, b, s0, d, rfl, N1, N2, B1, B2, B3, B4, q⟩

abbrev s_floor_of : Stmt := topS 15
theorem sc_floor_of : FnScope ["number", "step", "top", "base", "step_top", "step_base", "many"] ["number", "step"] (defScope s_floor_of) := ⟨rfl, rfl, rfl, by decide +kernel, rfl, by decide +kernel, by decide +kernel⟩
theorem fn_floor_of {f : Addr} {fd : FuncData} (F : FunD K "floor_of" "floor_of" (defArgs s_floor_of) (defBody s_floor_of) (defScope s_floor_of) [] [("step", V.int 1)] f fd) (B : Bl mg) (c_lowest : Cal P w K mg base 1 "lowest" ["top", "base"] spLow) (c_pair_of : Cal P w K mg base 1 "pair_of" ["number"] spPair) (c_sign_of : Cal P w K mg base 4 "sign_of" ["number"] spSign) (c_need_number : Cal P w K mg base 3 "need_number" ["thing"] spNeed) : FnOk P w K mg base CX0 5 f fd ["number", "step"] (spN 2 spFloor) := by
  refine fnD F sc_floor_of (fun cdv A outer s H vs Q E hr h => ?_)
  obtain ⟨x, y, t, b, c, d, rfl, N1, N2, hc, B1, B2, B3, B4, q⟩ := h
  refine ⟨_, (pss_cons (ps_expr (pe_cal c_need_number hr (by decide) (by rfl) (pa_cons (pv 0) pa_nil)))
      (pss_cons (ps_if (pt_cmpR op_lt (pe_cal c_sign_of hr (by decide) (by rfl) (pa_cons (pv 1) pa_nil)) pe_int (nomark _)) (pss_one ps_never) pss_nil)
      (pss_cons (ps_asg (pe_cal c_pair_of hr (by decide) (by rfl) (pa_cons (pv 0) pa_nil)) (pg_tup (by rfl) (pgs_cons (pg_name (i := 2) sc_floor_of.nd rfl (.inl rfl)) (pgs_cons (pg_name (i := 3) sc_floor_of.nd rfl (.inl rfl)) pgs_nil))))
      (pss_cons (ps_asg (pe_cal c_pair_of hr (by decide) (by rfl) (pa_cons (pv 1) pa_nil)) (pg_tup (by rfl) (pgs_cons (pg_name (i := 4) sc_floor_of.nd rfl (.inl rfl)) (pgs_cons (pg_name (i := 5) sc_floor_of.nd rfl (.inl rfl)) pgs_nil))))
      (pss_cons (ps_set (i := 6) sc_floor_of.nd rfl (.inl rfl) (pe_op op_fdivA (pe_op op_mulW (pv 2) (pv 5)) (pe_op op_mulW (pv 3) (pv 4))))
      (pss_one (ps_ret (pe_cal c_lowest hr (by decide) (by rfl) (pa_cons (pe_op op_mulW (pv 6) (pv 4)) (pa_cons (pv 5) pa_nil)))))))))), ?_⟩
  walk_at "rd"
  refine ⟨x, t, b, rfl, N1, ?_⟩
  walk_at "rd"
  refine ⟨y, c, d, rfl, N2, fun H1 S1 => ?_⟩
  walk_at "rd"
  refine q_decF (by unfold sgn; rw [if_neg (by omega), if_pos hc]; decide) ?_
  walk_at "rd"
  refine ⟨x, t, b, rfl, N1.same S1, fun p H2 S2 hp => ?_⟩
  walk_at "rd"
  refine ⟨y, c, d, rfl, N2.same (S1.trans S2), fun p2 H3 S3 hp2 => ?_⟩
  walk_at "rd"
  refine q_I (mulW B1 B4 (by decide)) ?_
  walk_at "rd"
  refine q_I (mulW B2 B3 (by decide)) ?_
  have hbc : 0 < b * c := Int.mul_pos N1.pos hc
  refine q_I (divA (by omega) (B2.mul B3) (by decide)) ?_
  walk_at "rd"
  have BM : Bt 2000 ((t * d).fdiv (b * c)) := (B1.mul B4).le (fdiv_abs hbc)
  refine q_I (mulW BM B3 (by decide)) ?_
  walk_at "rd"
  refine ⟨flo t b c d, d, rfl, by have := N2.pos; omega, (BM.mul B3).mono (by decide), B4.mono (by decide), fun v H4 t' b' S4 N L => ?_⟩
  exact q v H4 t' b' (((S1.trans S2).trans S3).trans S4) N L

abbrev s__law_cell : Stmt := topS 17
theorem sc__law_cell : FnScope ["_law_script", "_law_k"] ["_law_script", "_law_k"] (defScope s__law_cell) := ⟨rfl, rfl, rfl, by decide +kernel, rfl, by decide +kernel, by decide +kernel⟩
theorem fn__law_cell {f : Addr} {fd : FuncData} (F : Fun K "_law_cell" "_law_cell" s__law_cell f fd) (B : Bl mg)  : FnOk P w K mg base CX0 1 f fd ["_law_script", "_law_k"] (spN 2 (spCell K)) := by
  refine fnN F sc__law_cell (fun cdv A outer s H vs Q E hr h => ?_)
  obtain ⟨a, ns, k, rfl, hS, hk, q⟩ := h
  refine ⟨_, (pss_cons (ps_if (pt_cmpR op_lt (pv 1) (pe_callB call_lenK (by rfl) B.b_len (by decide +kernel) (pa_cons (pv 0) pa_nil)) (nomark _)) (pss_one (ps_ret (pe_ix ix_list (pv 0) (pv 1) (fun _ _ => rfl)))) pss_nil)
      (pss_one (ps_ret (pe_op op_add (pe_op op_mulW pe_int (pv 1)) pe_int)))), ?_⟩
  walk_at "rd"
  refine q_lenL hS ?_
  walk_at "rd"
  refine q_dec (fun e => ?_) (fun e => ?_)
  · have hk2 : k < ns.length := by
      rw [List.length_map] at e
      omega
    walk_at "rd"
    refine q_ixL hS (v := .int ns[k]) ?_ ?_
    · rw [List.getElem?_map, List.getElem?_eq_getElem hk2]
      rfl
    · exact q _
  · walk_at "rd"
    refine q_I (mulW (Bt.small (by decide) (by decide)) (Bt.small (by omega) (by omega)) (by decide)) ?_
    walk_at "rd"
    exact q _

abbrev s__law_box : Stmt := topS 18
theorem sc__law_box : FnScope ["_law_cell_here"] ["_law_cell_here"] (defScope s__law_box) := ⟨rfl, rfl, rfl, by decide +kernel, rfl, by decide +kernel, by decide +kernel⟩
theorem fn__law_box {f : Addr} {fd : FuncData} (F : Fun K "_law_box" "_law_box" s__law_box f fd) (B : Bl mg)  : FnOk P w K mg base CX0 1 f fd ["_law_cell_here"] (spN 1 spBox) := by
  refine fnN F sc__law_box (fun cdv A outer s H vs Q E hr h => ?_)
  obtain ⟨x, rfl, q⟩ := h
  refine ⟨_, (pss_one (ps_ret (pe_lst (pa_cons (pe_callB (call_maxK rfl) (by rfl) B.b_max (by decide +kernel) (pa_cons pe_int (pa_cons (pe_op op_sub (pv 0) (pe_op op_pow pe_int pe_int)) pa_nil))) (pa_cons (pe_op op_modN (pv 0) pe_int) (pa_cons pe_int pa_nil)))))), ?_⟩
  walk_at "rd"
  refine q_I ⟨by decide, by decide, by decide⟩ ?_
  walk_at "rd"
  refine q_I (by decide) ?_
  walk_at "rd"
  intro p np
  refine q p _ _ np ?_ (fmod_lo _ (by decide)) (fmod_hi _ (by decide))
  split <;> omega

abbrev s__law_take : Stmt := topS 19
theorem sc__law_take : FnScope ["_law_box_here", "_law_many", "_law_digit", "_law_number_here"] ["_law_box_here", "_law_many"] (defScope s__law_take) := ⟨rfl, rfl, rfl, by decide +kernel, rfl, by decide +kernel, by decide +kernel⟩
theorem fn__law_take {f : Addr} {fd : FuncData} (F : Fun K "_law_take" "_law_take" s__law_take f fd) (B : Bl mg)  : FnOk P w K mg base CX0 1 f fd ["_law_box_here", "_law_many"] (spN 2 spTake) := by
  refine fnN F sc__law_take (fun cdv A outer s H vs Q E hr h => ?_)
  obtain ⟨bx, m, n, rfl, BX, hm, Bm, hn, q⟩ := h
  refine ⟨_, (pss_cons (ps_if (pt_cmpR op_gt (pe_ix ix_list (pv 0) pe_int (fun _ _ => rfl)) pe_int (nomark _)) (pss_cons (ps_set (i := 2) sc__law_take.nd rfl (.inl rfl) (pe_op op_modN (pe_ix ix_list (pv 0) pe_int (fun _ _ => rfl)) (pv 1)))
      (pss_cons (ps_asg (pe_op op_fdivA (pe_ix ix_list (pv 0) pe_int (fun _ _ => rfl)) (pv 1)) (pg_sub (pv 0) pe_int set_list))
      (pss_one (ps_ret (pv 2))))) pss_nil)
      (pss_cons (ps_asg (pe_op op_add (pe_ix ix_list (pv 0) pe_int (fun _ _ => rfl)) pe_int) (pg_sub (pv 0) pe_int set_list))
      (pss_cons (ps_set (i := 3) sc__law_take.nd rfl (.inl rfl) (pe_op op_modN (pe_op op_pow (pe_op op_add (pe_op op_add (pe_ix ix_list (pv 0) pe_int (fun _ _ => rfl)) (pe_op op_mulW pe_int (pe_ix ix_list (pv 0) pe_int (fun _ _ => rfl)))) pe_int) pe_int) pe_int))
      (pss_cons (ps_set (i := 3) sc__law_take.nd rfl (.inl rfl) (pe_op op_modN (pe_op op_pow (pe_op op_add (pv 3) (pe_op op_mulW pe_int (pe_ix ix_list (pv 0) pe_int (fun _ _ => rfl)))) pe_int) pe_int))
      (pss_one (ps_ret (pe_op op_modN (pe_op op_fdivA (pv 3) pe_int) (pv 1)))))))), ?_⟩
  obtain ⟨a, b, c, hb, ha0, hb0, hb1, hc0, hc1⟩ := BX
  walk_at "rd"
  refine q_dec (fun e => ?_) (fun e => ?_)
  · walk_at "rd"
    refine q_I (by omega) ?_
    walk_at "rd"
    refine q_I (divA (by omega) Bm (by decide)) ?_
    walk_at "rd"
    refine q_set (j := 0) hb (Nat.le_of_ble_eq_true rfl) ?_
    walk_at "rd"
    exact q _ _ (fmod_lo _ hm) (fmod_hi _ hm) Go.set ⟨_, b, c, upd_same, fdiv_lo ha0 hm, hb0, hb1, hc0, by omega⟩
  · walk_at "rd"
    refine q_set (j := 2) hb (Nat.le_of_ble_eq_true rfl) ?_
    have h1 : (upd H bx (.lst (([V.int a, V.int b, V.int c]).set 2 (V.int (c + 1))))) bx = some (.lst [V.int a, V.int b, V.int (c + 1)]) := upd_same
    walk_at "rd"
    refine q_I (mulW (Bt.small (by decide) (by decide)) (Bt.small (by omega) (by omega)) (by decide)) ?_
    walk_at "rd"
    refine q_I ⟨by decide, by decide, by omega⟩ ?_
    walk_at "rd"
    refine q_I (by decide) ?_
    walk_at "rd"
    refine q_I (mulW (Bt.small (by decide) (by decide)) (Bt.small (by omega) (by omega)) (by decide)) ?_
    generalize hz : (Int.fmod _ 2147483647 : Int) = z
    have z0 : 0 ≤ z := hz ▸ fmod_lo _ (by decide)
    have z1 : z < 2147483647 := hz ▸ fmod_hi _ (by decide)
    walk_at "rd"
    refine q_I ⟨by decide, by decide, by omega⟩ ?_
    walk_at "rd"
    refine q_I (by decide) ?_
    walk_at "rd"
    refine q_I ⟨by decide, by decide⟩ ?_
    walk_at "rd"
    refine q_I (by omega) ?_
    walk_at "rd"
    exact q _ _ (fmod_lo _ hm) (fmod_hi _ hm) Go.set ⟨a, b, c + 1, upd_same, ha0, hb0, hb1, by omega, by omega⟩

abbrev s__law_far : Stmt := topS 20
theorem sc__law_far : FnScope ["_law_box_here", "_law_number_here", "_law_k"] ["_law_box_here"] (defScope s__law_far) := ⟨rfl, rfl, rfl, by decide +kernel, rfl, by decide +kernel, by decide +kernel⟩
theorem fn__law_far {f : Addr} {fd : FuncData} (F : Fun K "_law_far" "_law_far" s__law_far f fd) (B : Bl mg) (c__law_take : Cal P w K mg base 1 "_law_take" ["_law_box_here", "_law_many"] spTake) : FnOk P w K mg base CX0 2 f fd ["_law_box_here"] (spN 1 spFar) := by
  refine fnN F sc__law_far (fun cdv A outer s H vs Q E hr h => ?_)
  obtain ⟨bx, n, rfl, BX, hn, q⟩ := h
  refine ⟨_, (pss_cons (ps_set (i := 1) sc__law_far.nd rfl (.inl rfl) pe_int)
      (pss_cons (ps_for PassesOwn.never (by rfl) (pi_range1 (by rfl) B.b_range (pa_cons (pe_op op_add pe_int (pe_cal c__law_take hr (by decide) (by rfl) (pa_cons (pv 0) (pa_cons pe_int pa_nil)))) pa_nil)) (pg_name (i := 2) sc__law_far.nd rfl (.inl rfl)) (pss_one (ps_set (i := 1) sc__law_far.nd rfl (.inl rfl) (pe_op op_add (pe_op op_mulW pe_int (pv 1)) (pe_cal c__law_take hr (by decide) (by rfl) (pa_cons (pv 0) (pa_cons pe_int pa_nil)))))))
      (pss_one (ps_ret (pe_ix ix_list (pe_lst (pa_cons (pv 1) (pa_cons (pe_op op_sub pe_int (pv 1)) (pa_cons (pe_op op_sub (pe_op op_modN (pv 1) pe_int) pe_int) pa_nil)))) (pe_cal c__law_take hr (by decide) (by rfl) (pa_cons (pv 0) (pa_cons pe_int pa_nil))) (fun _ _ => rfl)))))), ?_⟩
  walk_at "rd"
  refine ⟨bx, 10, n, rfl, BX, by decide, (Bt.small (by decide) (by decide)).mono (by decide), by omega, fun d H1 d0 d1 G1 BX1 => ?_⟩
  walk_at "rd"
  refine ⟨1 + d, rfl, by omega, by omega, ?_⟩
  refine for_range (lo := 0) (n := (1 + d).toNat) (fun i σ H' => ∃ (x : Int) (y : Option V), σ = [some (.ref bx), some (.int x), y] ∧ Bt (11 * i) x ∧ Go bx H H' ∧ Box H' bx (n + 1 + i)) ⟨0, none, rfl, ⟨by decide⟩, G1, BX1.mono (by omega)⟩ ?_ ?_
  · rintro i σ H2 hi ⟨x, y, rfl, Bx, G2, BX2⟩
    walk_at "rd"
    refine q_I (mulW (Bt.small (by decide) (by decide)) Bx (by omega)) ?_
    walk_at "rd"
    refine ⟨bx, 1000, _, rfl, BX2, by decide, (Bt.small (by decide) (by decide)).mono (by decide), by omega, fun d2 H3 e0 e1 G3 BX3 => ?_⟩
    walk_at "rd"
    refine ⟨_, _, rfl, ?_, G2.trans G3, BX3.mono (by omega)⟩
    refine ⟨?_⟩
    have h1 : (x.natAbs : Int) < 2 ^ (11 * i) := by exact_mod_cast Bx.lt
    have h2 : (2 : Nat) ^ (11 * (i + 1)) = 2 ^ (11 * i) * 2048 := by
      rw [Nat.mul_add, Nat.pow_add]
    have h3 := Bx.lt
    rw [h2]
    generalize 2 ^ (11 * i) = z at h3
    omega
  · rintro σ H2 ⟨x, y, rfl, Bx, G2, BX2⟩
    have Bx2 : Bt 110 x := Bx.mono (by omega)
    walk_at "rd"
    refine q_I (by decide) ?_
    walk_at "rd"
    intro p np
    have nb : p ≠ bx := fun z => by
      obtain ⟨_, _, _, h, _⟩ := BX2
      rw [← z, np] at h
      cases h
    walk_at "rd"
    refine ⟨bx, 3, _, rfl, BX2.same (Same.up np), by decide, (Bt.small (by decide) (by decide)).mono (by decide), by omega, fun d3 H4 e0 e1 G4 BX4 => ?_⟩
    have hp := G4 p _ upd_same nb
    refine q_Lat hp e0 e1 fun v hv => ?_
    have G5 := (G2.trans (Go.of (Same.up np))).trans G4
    have hf0 := fmod_lo x (show (0 : Int) < 1000 by decide)
    have hf1 := fmod_hi x (show (0 : Int) < 1000 by decide)
    rcases List.mem_cons.mp hv with e | hv
    · subst e
      exact q _ _ Bx2 G5 (BX4.mono (by omega))
    rcases List.mem_cons.mp hv with e | hv
    · subst e
      exact q _ _ (Bt.le Bx2 (by omega)) G5 (BX4.mono (by omega))
    rcases List.mem_cons.mp hv with e | hv
    · subst e
      exact q _ _ ((Bt.small (by omega) (by omega)).mono (by decide)) G5 (BX4.mono (by omega))
    · cases hv

abbrev s__law_number : Stmt := topS 21
theorem sc__law_number : FnScope ["_law_upper", "_law_lower", "_law_left", "_law_right"] ["_law_upper", "_law_lower"] (defScope s__law_number) := ⟨rfl, rfl, rfl, by decide +kernel, rfl, by decide +kernel, by decide +kernel⟩
theorem fn__law_number {f : Addr} {fd : FuncData} (F : Fun K "_law_number" "_law_number" s__law_number f fd) (B : Bl mg)  : FnOk P w K mg base CX0 1 f fd ["_law_upper", "_law_lower"] (spN 2 spLow) := by
  refine fnN F sc__law_number (fun cdv A outer s H vs Q E hr h => ?_)
  obtain ⟨t, b, rfl, hb, B1, B2, q⟩ := h
  refine ⟨_, (pss_cons (ps_par (i := 2) (j := 3) (by rfl) sc__law_number.nd rfl rfl (by decide) rfl rfl (pa_cons (pe_callB call_absK (by rfl) B.b_abs (by decide +kernel) (pa_cons (pv 0) pa_nil)) (pa_cons (pe_callB call_absK (by rfl) B.b_abs (by decide +kernel) (pa_cons (pv 1) pa_nil)) pa_nil)) (by rfl))
      (pss_cons (ps_while PassesOwn.never (pt_cmpR op_neI (pv 3) pe_int (nomark _)) (pss_one (ps_par (i := 2) (j := 3) (by rfl) sc__law_number.nd rfl rfl (by decide) rfl rfl (pa_cons (pv 3) (pa_cons (pe_op op_modN (pv 2) (pv 3)) pa_nil)) (by rfl))))
      (pss_cons (ps_if (pt_cmpR op_lt (pv 1) pe_int (nomark _)) (pss_one (ps_set (i := 2) sc__law_number.nd rfl (.inl rfl) (pe_op op_sub pe_int (pv 2)))) pss_nil)
      (pss_one (ps_ret (pe_ifExp (pt_cmpR op_eqI (pe_op op_fdivA (pv 1) (pv 2)) pe_int (nomark _)) (pe_op op_fdivA (pv 0) (pv 2)) (pe_tup (pa_cons (pe_op op_fdivA (pv 0) (pv 2)) (pa_cons (pe_op op_fdivA (pv 1) (pv 2)) pa_nil))))))))), ?_⟩
  obtain ⟨t', b', C⟩ := cut_of (t := t) hb
  walk_at "rd"
  refine ⟨fun m σ H' => ∃ x y : Int, σ = [some (.int t), some (.int b), some (.int x), some (.int y)] ∧ H' = H ∧ m = y.natAbs ∧ 0 ≤ x ∧ 0 ≤ y ∧ Nat.gcd x.natAbs y.natAbs = Nat.gcd t.natAbs b.natAbs, ⟨_, _, _, rfl, rfl, rfl, by split <;> omega, by split <;> omega, by rw [abs_abs, abs_abs]⟩, ?_⟩
  rintro m σ H' ⟨x, y, rfl, rfl, rfl, hx, hy, hg⟩
  walk_at "rd"
  refine q_ndec (fun e => ?_) (fun e => ?_)
  · refine ⟨_, fun σ' H' h => h, ?_⟩
    walk_at "rd"
    refine q_I e ?_
    walk_at "rd"
    have h0 := fmod_lo x (show 0 < y by omega)
    have h1 := fmod_hi x (show 0 < y by omega)
    refine ⟨(x.fmod y).natAbs, by omega, y, x.fmod y, rfl, rfl, rfl, hy, h0, ?_⟩
    rw [← hg, fmod_abs hx hy, Nat.gcd_comm x.natAbs, Nat.gcd_rec y.natAbs x.natAbs, Nat.gcd_comm]
  · subst e
    have hx2 : x = ((Nat.gcd t.natAbs b.natAbs : Nat) : Int) := by
      rw [← hg]
      have : Nat.gcd x.natAbs (0 : Int).natAbs = x.natAbs := Nat.gcd_zero_right _
      rw [this]
      omega
    subst hx2
    walk_at "rd"
    refine q_dec (fun e0 => ?_) (fun e0 => ?_)
    · have es : gsg t b = 0 - ((Nat.gcd t.natAbs b.natAbs : Nat) : Int) := by
        unfold gsg
        rw [if_pos e0]
        omega
      rw [es] at C
      have dv := divA (i := t) C.ns (B2.le C.ss) (by decide)
      have dv2 := divA (i := b) C.ns (B2.le C.ss) (by decide)
      walk_at "rd"
      refine q_I dv2 ?_
      rw [C.fb]
      walk_at "rd"
      refine q_dec (fun e => ?_) (fun e => ?_)
      · walk_at "rd"
        refine q_I dv ?_
        rw [C.ft]
        refine q _ _ _ _ (Same.refl _) (.inl ⟨rfl, e⟩) C.low
      · walk_at "rd"
        refine q_I dv ?_
        walk_at "rd"
        refine q_I dv2 ?_
        walk_at "rd"
        intro p np
        rw [C.ft, C.fb]
        have h2 := C.p
        exact q _ _ _ _ (Same.up np) (.inr ⟨p, rfl, upd_same, by omega, C.c⟩) C.low
    · have es : gsg t b = ((Nat.gcd t.natAbs b.natAbs : Nat) : Int) := by
        unfold gsg
        rw [if_neg e0]
      rw [es] at C
      have dv := divA (i := t) C.ns (B2.le C.ss) (by decide)
      have dv2 := divA (i := b) C.ns (B2.le C.ss) (by decide)
      walk_at "rd"
      refine q_I dv2 ?_
      rw [C.fb]
      walk_at "rd"
      refine q_dec (fun e => ?_) (fun e => ?_)
      · walk_at "rd"
        refine q_I dv ?_
        rw [C.ft]
        refine q _ _ _ _ (Same.refl _) (.inl ⟨rfl, e⟩) C.low
      · walk_at "rd"
        refine q_I dv ?_
        walk_at "rd"
        refine q_I dv2 ?_
        walk_at "rd"
        intro p np
        rw [C.ft, C.fb]
        have h2 := C.p
        exact q _ _ _ _ (Same.up np) (.inr ⟨p, rfl, upd_same, by omega, C.c⟩) C.low

abbrev s__law_pair : Stmt := topS 22
theorem sc__law_pair : FnScope ["_law_number_here"] ["_law_number_here"] (defScope s__law_pair) := ⟨rfl, rfl, rfl, by decide +kernel, rfl, by decide +kernel, by decide +kernel⟩
theorem fn__law_pair {f : Addr} {fd : FuncData} (F : Fun K "_law_pair" "_law_pair" s__law_pair f fd) (B : Bl mg)  : FnOk P w K mg base CX0 1 f fd ["_law_number_here"] (spN 1 spPair) := by
  refine fnN F sc__law_pair (fun cdv A outer s H vs Q E hr h => ?_)
  obtain ⟨v, t, b, rfl, N, q⟩ := h
  refine ⟨_, (pss_one (ps_ret (pe_ifExp (pt_val (pe_callB call_isi (by rfl) B.b_isinstance (by decide +kernel) (pa_cons (pv 0) (pa_cons (pe_bltn (v := .ty "tuple") (by rfl) B.b_tuple (by decide +kernel) rfl) pa_nil)))) (pv 0) (pe_tup (pa_cons (pv 0) (pa_cons pe_int pa_nil)))))), ?_⟩
  rcases N with ⟨rfl, rfl⟩ | ⟨a, rfl, ha, hb, hc⟩
  · walk_at "rd"
    exact fun p np => q p _ (Same.up np) upd_same
  · walk_at "rd"
    exact q a H (Same.refl H) ha

abbrev s__law_is : Stmt := topS 23
theorem sc__law_is : FnScope ["_law_found", "_law_due"] ["_law_found", "_law_due"] (defScope s__law_is) := ⟨rfl, rfl, rfl, by decide +kernel, rfl, by decide +kernel, by decide +kernel⟩
theorem fn__law_is_v0 {f : Addr} {fd : FuncData} (F : Fun K "_law_is" "_law_is" s__law_is f fd) (B : Bl mg)  : FnOk P w K mg base CX0 1 f fd ["_law_found", "_law_due"] (spN 2 spIs0) := by
  refine fnN F sc__law_is (fun cdv A outer s H vs Q E hr h => ?_)
  obtain ⟨i, rfl, q⟩ := h
  refine ⟨_, (pss_cons (ps_if (pt_val (pe_callB call_isi (by rfl) B.b_isinstance (by decide +kernel) (pa_cons (pv 1) (pa_cons (pe_bltn (v := .ty "tuple") (by rfl) B.b_tuple (by decide +kernel) rfl) pa_nil)))) pss_never pss_nil)
      (pss_one (ps_ret (pe_and (pe_callB call_isi (by rfl) B.b_isinstance (by decide +kernel) (pa_cons (pv 0) (pa_cons (pe_bltn (v := .ty "int") (by rfl) B.b_int (by decide +kernel) rfl) pa_nil))) (pe_and (pe_not (pe_callB call_isi (by rfl) B.b_isinstance (by decide +kernel) (pa_cons (pv 0) (pa_cons (pe_bltn (v := .ty "bool") (by rfl) B.b_bool (by decide +kernel) rfl) pa_nil)))) (pe_one (pe_cmpR (op_eqD hr.units) (pv 0) (pv 1) (nomark _)))))))), ?_⟩
  walk_at "rd"
  exact q

theorem fn__law_is {f : Addr} {fd : FuncData} (F : Fun K "_law_is" "_law_is" s__law_is f fd) (B : Bl mg) (c__law_is_v0 : Cal P w K mg base 1 "_law_is" ["_law_found", "_law_due"] spIs0) : FnOk P w K mg base CX0 2 f fd ["_law_found", "_law_due"] (spN 2 spIs) := by
  refine fnN F sc__law_is (fun cdv A outer s H vs Q E hr h => ?_)
  obtain ⟨x, y, t, b, rfl, N1, N2, q⟩ := h
  refine ⟨_, (pss_cons (ps_if (pt_val (pe_callB call_isi (by rfl) B.b_isinstance (by decide +kernel) (pa_cons (pv 1) (pa_cons (pe_bltn (v := .ty "tuple") (by rfl) B.b_tuple (by decide +kernel) rfl) pa_nil)))) (pss_one (ps_ret (pe_and (pe_callB call_isi (by rfl) B.b_isinstance (by decide +kernel) (pa_cons (pv 0) (pa_cons (pe_bltn (v := .ty "tuple") (by rfl) B.b_tuple (by decide +kernel) rfl) pa_nil))) (pe_and (pe_cmpR (op_eqD hr.units) (pv 0) (pv 1) (nomark _)) (pe_and (pe_cal c__law_is_v0 hr (by decide) (by rfl) (pa_cons (pe_ix ix_tup (pv 0) pe_int (fun _ _ => rfl)) (pa_cons (pe_ix ix_tup (pv 1) pe_int (fun _ _ => rfl)) pa_nil))) (pe_one (pe_cal c__law_is_v0 hr (by decide) (by rfl) (pa_cons (pe_ix ix_tup (pv 0) pe_int (fun _ _ => rfl)) (pa_cons (pe_ix ix_tup (pv 1) pe_int (fun _ _ => rfl)) pa_nil))))))))) pss_nil)
      (pss_one (ps_ret (pe_and (pe_callB call_isi (by rfl) B.b_isinstance (by decide +kernel) (pa_cons (pv 0) (pa_cons (pe_bltn (v := .ty "int") (by rfl) B.b_int (by decide +kernel) rfl) pa_nil))) (pe_and (pe_not (pe_callB call_isi (by rfl) B.b_isinstance (by decide +kernel) (pa_cons (pv 0) (pa_cons (pe_bltn (v := .ty "bool") (by rfl) B.b_bool (by decide +kernel) rfl) pa_nil)))) (pe_one (pe_cmpR (op_eqD hr.units) (pv 0) (pv 1) (nomark _)))))))), ?_⟩
  rcases N1 with ⟨rfl, rfl⟩ | ⟨a, rfl, ha, hb, hc⟩
  · rcases N2 with ⟨rfl, _⟩ | ⟨_, _, _, h, _⟩
    · walk_at "rd"
      exact q H (Same.refl H)
    · exact absurd h (by decide)
  · rcases N2 with ⟨_, rfl⟩ | ⟨a2, rfl, ha2, _, _⟩
    · exact absurd hb (by decide)
    · walk_at "rd"
      refine ⟨t, rfl, ?_⟩
      walk_at "rd"
      refine ⟨b, rfl, ?_⟩
      exact q H (Same.refl H)

abbrev s__law_drawn : Stmt := topS 24
theorem sc__law_drawn : FnScope ["_law_box_here", "_law_upper", "_law_lower"] ["_law_box_here"] (defScope s__law_drawn) := ⟨rfl, rfl, rfl, by decide +kernel, rfl, by decide +kernel, by decide +kernel⟩
theorem fn__law_drawn {f : Addr} {fd : FuncData} (F : Fun K "_law_drawn" "_law_drawn" s__law_drawn f fd) (B : Bl mg) (c__law_number : Cal P w K mg base 1 "_law_number" ["_law_upper", "_law_lower"] spLow) (c__law_far : Cal P w K mg base 2 "_law_far" ["_law_box_here"] spFar) (c__law_take : Cal P w K mg base 1 "_law_take" ["_law_box_here", "_law_many"] spTake) : FnOk P w K mg base CX0 3 f fd ["_law_box_here"] (spN 1 spDrawn) := by
  refine fnN F sc__law_drawn (fun cdv A outer s H vs Q E hr h => ?_)
  obtain ⟨bx, n, rfl, BX, hn, q⟩ := h
  refine ⟨_, (pss_cons (ps_set (i := 1) sc__law_drawn.nd rfl (.inl rfl) (pe_ix ix_list (pe_lst (pa_cons (pe_op op_sub (pe_cal c__law_take hr (by decide) (by rfl) (pa_cons (pv 0) (pa_cons pe_int pa_nil))) pe_int) (pa_cons (pe_cal c__law_far hr (by decide) (by rfl) (pa_cons (pv 0) pa_nil)) pa_nil))) (pe_cal c__law_take hr (by decide) (by rfl) (pa_cons (pv 0) (pa_cons pe_int pa_nil))) (fun _ _ => rfl)))
      (pss_cons (ps_set (i := 2) sc__law_drawn.nd rfl (.inl rfl) (pe_ix ix_list (pe_lst (pa_cons pe_int (pa_cons pe_int (pa_cons (pe_op op_add pe_int (pe_cal c__law_take hr (by decide) (by rfl) (pa_cons (pv 0) (pa_cons pe_int pa_nil)))) (pa_cons (pe_op op_add pe_int (pe_callB call_absK (by rfl) B.b_abs (by decide +kernel) (pa_cons (pe_cal c__law_far hr (by decide) (by rfl) (pa_cons (pv 0) pa_nil)) pa_nil))) pa_nil))))) (pe_cal c__law_take hr (by decide) (by rfl) (pa_cons (pv 0) (pa_cons pe_int pa_nil))) (fun _ _ => rfl)))
      (pss_one (ps_ret (pe_cal c__law_number hr (by decide) (by rfl) (pa_cons (pv 1) (pa_cons (pv 2) pa_nil))))))), ?_⟩
  walk_at "rd"
  refine ⟨bx, 41, n, rfl, BX, by decide, (Bt.small (by decide) (by decide)).mono (by decide), by omega, fun d H1 d0 d1 G1 BX1 => ?_⟩
  walk_at "rd"
  refine ⟨bx, _, rfl, BX1, by omega, fun x H2 Bx G2 BX2 => ?_⟩
  walk_at "rd"
  intro p np
  have nb := BX2.fresh np
  walk_at "rd"
  refine ⟨bx, 2, _, rfl, BX2.same (Same.up np), by decide, (Bt.small (by decide) (by decide)).mono (by decide), by omega, fun d2 H3 e0 e1 G3 BX3 => ?_⟩
  have hp := G3 p _ upd_same nb
  refine q_Lat hp e0 e1 fun v hv => ?_
  have GA := ((G1.trans G2).trans (Go.of (Same.up np))).trans G3
  obtain ⟨u, rfl, Bu⟩ : ∃ u, v = .int u ∧ Bt 110 u := by
    rcases List.mem_cons.mp hv with e | hv
    · exact ⟨_, e, (Bt.small (by omega) (by omega)).mono (by decide)⟩
    rcases List.mem_cons.mp hv with e | hv
    · exact ⟨_, e, Bx⟩
    · cases hv
  clear hp hv
  walk_at "rd"
  refine ⟨bx, 12, _, rfl, BX3, by decide, (Bt.small (by decide) (by decide)).mono (by decide), by omega, fun d4 H4 g0 g1 G4 BX4 => ?_⟩
  walk_at "rd"
  refine ⟨bx, _, rfl, BX4, by omega, fun y H5 By G5 BX5 => ?_⟩
  walk_at "rd"
  intro p2 np2
  have nb2 := BX5.fresh np2
  walk_at "rd"
  refine ⟨bx, 4, _, rfl, BX5.same (Same.up np2), by decide, (Bt.small (by decide) (by decide)).mono (by decide), by omega, fun d5 H6 f0 f1 G6 BX6 => ?_⟩
  have hp := G6 p2 _ upd_same nb2
  refine q_Lat hp f0 f1 fun v hv => ?_
  have GB := (((GA.trans G4).trans G5).trans (Go.of (Same.up np2))).trans G6
  have By1 : Bt 111 (1 + if y < 0 then -y else y) := by
    have h1 := By.lt
    refine ⟨?_⟩
    rw [show (2 : Nat) ^ 111 = 2 * 2 ^ 110 from by rw [Nat.pow_succ, Nat.mul_comm]]
    generalize (2 : Nat) ^ 110 = z at h1
    split <;> omega
  obtain ⟨l, rfl, Bl, l0⟩ : ∃ l, v = .int l ∧ Bt 111 l ∧ 0 < l := by
    rcases List.mem_cons.mp hv with e | hv
    · exact ⟨_, e, (Bt.small (by decide) (by decide)).mono (by decide), by decide⟩
    rcases List.mem_cons.mp hv with e | hv
    · exact ⟨_, e, (Bt.small (by decide) (by decide)).mono (by decide), by decide⟩
    rcases List.mem_cons.mp hv with e | hv
    · exact ⟨_, e, (Bt.small (by omega) (by omega)).mono (by decide), by omega⟩
    rcases List.mem_cons.mp hv with e | hv
    · exact ⟨_, e, By1, by split <;> omega⟩
    · cases hv
  clear hp hv
  walk_at "rd"
  refine ⟨u, l, rfl, by omega, Bu.mono (by decide), Bl.mono (by decide), fun v H7 t' b' S7 N L => ?_⟩
  exact q v t' b' H7 N ((Bu.le L.nt).mono (by decide)) ((Bl.le L.nb).mono (by decide)) (GB.trans (Go.of S7)) ((BX6.same S7).mono (by omega))

abbrev s__law_floor : Stmt := topS 25
theorem sc__law_floor : FnScope ["_law_number_here", "_law_size", "_law_a", "_law_b", "_law_c", "_law_d"] ["_law_number_here", "_law_size"] (defScope s__law_floor) := ⟨rfl, rfl, rfl, by decide +kernel, rfl, by decide +kernel, by decide +kernel⟩
theorem fn__law_floor {f : Addr} {fd : FuncData} (F : Fun K "_law_floor" "_law_floor" s__law_floor f fd) (B : Bl mg) (c__law_number : Cal P w K mg base 1 "_law_number" ["_law_upper", "_law_lower"] spLow) (c__law_pair : Cal P w K mg base 1 "_law_pair" ["_law_number_here"] spPair) : FnOk P w K mg base CX0 2 f fd ["_law_number_here", "_law_size"] (spN 2 spFloor) := by
  refine fnN F sc__law_floor (fun cdv A outer s H vs Q E hr h => ?_)
  obtain ⟨x, y, t, b, c, d, rfl, N1, N2, hc, B1, B2, B3, B4, q⟩ := h
  refine ⟨_, (pss_cons (ps_asg (pe_cal c__law_pair hr (by decide) (by rfl) (pa_cons (pv 0) pa_nil)) (pg_tup (by rfl) (pgs_cons (pg_name (i := 2) sc__law_floor.nd rfl (.inl rfl)) (pgs_cons (pg_name (i := 3) sc__law_floor.nd rfl (.inl rfl)) pgs_nil))))
      (pss_cons (ps_asg (pe_cal c__law_pair hr (by decide) (by rfl) (pa_cons (pv 1) pa_nil)) (pg_tup (by rfl) (pgs_cons (pg_name (i := 4) sc__law_floor.nd rfl (.inl rfl)) (pgs_cons (pg_name (i := 5) sc__law_floor.nd rfl (.inl rfl)) pgs_nil))))
      (pss_one (ps_ret (pe_cal c__law_number hr (by decide) (by rfl) (pa_cons (pe_op op_mulW (pe_op op_fdivA (pe_op op_mulW (pv 2) (pv 5)) (pe_op op_mulW (pv 3) (pv 4))) (pv 4)) (pa_cons (pv 5) pa_nil))))))), ?_⟩
  walk_at "rd"
  refine ⟨x, t, b, rfl, N1, fun p H2 S2 hp => ?_⟩
  walk_at "rd"
  refine ⟨y, c, d, rfl, N2.same S2, fun p2 H3 S3 hp2 => ?_⟩
  walk_at "rd"
  refine q_I (mulW B1 B4 (by decide)) ?_
  walk_at "rd"
  refine q_I (mulW B2 B3 (by decide)) ?_
  have hbc : 0 < b * c := Int.mul_pos N1.pos hc
  refine q_I (divA (by omega) (B2.mul B3) (by decide)) ?_
  walk_at "rd"
  have BM : Bt 2000 ((t * d).fdiv (b * c)) := (B1.mul B4).le (fdiv_abs hbc)
  refine q_I (mulW BM B3 (by decide)) ?_
  walk_at "rd"
  refine ⟨flo t b c d, d, rfl, by have := N2.pos; omega, (BM.mul B3).mono (by decide), B4.mono (by decide), fun v H4 t' b' S4 N L => ?_⟩
  exact q v H4 t' b' ((S2.trans S3).trans S4) N L

abbrev s__law_near : Stmt := topS 26
theorem sc__law_near : FnScope ["_law_box_here", "_law_number_here", "_law_a", "_law_b", "_law_turn"] ["_law_box_here", "_law_number_here"] (defScope s__law_near) := ⟨rfl, rfl, rfl, by decide +kernel, rfl, by decide +kernel, by decide +kernel⟩
theorem fn__law_near {f : Addr} {fd : FuncData} (F : Fun K "_law_near" "_law_near" s__law_near f fd) (B : Bl mg) (c__law_number : Cal P w K mg base 1 "_law_number" ["_law_upper", "_law_lower"] spLow) (c__law_take : Cal P w K mg base 1 "_law_take" ["_law_box_here", "_law_many"] spTake) (c__law_pair : Cal P w K mg base 1 "_law_pair" ["_law_number_here"] spPair) : FnOk P w K mg base CX0 2 f fd ["_law_box_here", "_law_number_here"] (spN 2 spNear) := by
  refine fnN F sc__law_near (fun cdv A outer s H vs Q E hr h => ?_)
  obtain ⟨bx, n, v, t, b, rfl, BX, N, B1, B2, hn, q⟩ := h
  refine ⟨_, (pss_cons (ps_asg (pe_cal c__law_pair hr (by decide) (by rfl) (pa_cons (pv 1) pa_nil)) (pg_tup (by rfl) (pgs_cons (pg_name (i := 2) sc__law_near.nd rfl (.inl rfl)) (pgs_cons (pg_name (i := 3) sc__law_near.nd rfl (.inl rfl)) pgs_nil))))
      (pss_cons (ps_set (i := 4) sc__law_near.nd rfl (.inl rfl) (pe_cal c__law_take hr (by decide) (by rfl) (pa_cons (pv 0) (pa_cons pe_int pa_nil))))
      (pss_cons (ps_if (pt_cmpR op_eqI (pv 4) pe_int (nomark _)) (pss_one (ps_ret (pe_cal c__law_number hr (by decide) (by rfl) (pa_cons (pe_op op_add (pv 2) pe_int) (pa_cons (pv 3) pa_nil))))) pss_nil)
      (pss_cons (ps_if (pt_cmpR op_eqI (pv 4) pe_int (nomark _)) (pss_one (ps_ret (pe_cal c__law_number hr (by decide) (by rfl) (pa_cons (pv 2) (pa_cons (pe_op op_add (pv 3) pe_int) pa_nil))))) pss_nil)
      (pss_one (ps_ret (pe_ifExp (pt_cmpR op_eqI (pv 4) pe_int (nomark _)) (pv 1) (pe_cal c__law_number hr (by decide) (by rfl) (pa_cons (pe_op op_sub pe_int (pv 2)) (pa_cons (pv 3) pa_nil)))))))))), ?_⟩
  walk_at "rd"
  refine ⟨v, t, b, rfl, N, fun p H2 S2 hp => ?_⟩
  walk_at "rd"
  refine ⟨bx, 4, n, rfl, BX.same S2, by decide, (Bt.small (by decide) (by decide)).mono (by decide), by omega, fun d H3 d0 d1 G3 BX3 => ?_⟩
  have G := (Go.of (bx := bx) S2).trans G3
  have B1m : Bt 1 1 := ⟨by decide⟩
  have hb := N.pos
  walk_at "rd"
  refine q_dec (fun e => ?_) (fun e => ?_)
  · walk_at "rd"
    refine ⟨t + 1, b, rfl, by omega, (B1.add B1m).mono (by decide), B2.mono (by decide), fun v' H4 t' b' S4 N4 L => ?_⟩
    exact q v' t' b' H4 N4 (((B1.add B1m).le L.nt).mono (by decide)) ((B2.le L.nb).mono (by decide)) (G.trans (Go.of S4)) ((BX3.same S4).mono (by omega))
  walk_at "rd"
  refine q_dec (fun e => ?_) (fun e => ?_)
  · walk_at "rd"
    refine ⟨t, b + 1, rfl, by omega, B1.mono (by decide), (B2.add B1m).mono (by decide), fun v' H4 t' b' S4 N4 L => ?_⟩
    exact q v' t' b' H4 N4 ((B1.le L.nt).mono (by decide)) (((B2.add B1m).le L.nb).mono (by decide)) (G.trans (Go.of S4)) ((BX3.same S4).mono (by omega))
  walk_at "rd"
  refine q_dec (fun e => ?_) (fun e => ?_)
  · walk_at "rd"
    exact q v t b H3 (N.go BX G) (B1.mono (by decide)) (B2.mono (by decide)) G (BX3.mono (by omega))
  · walk_at "rd"
    refine ⟨0 - t, b, rfl, by omega, ((Bt.small (x := 0) (by decide) (by decide)).sub B1).mono (by decide), B2.mono (by decide), fun v' H4 t' b' S4 N4 L => ?_⟩
    have Bt0 : Bt 120 (0 - t) := by
      rw [Int.zero_sub]
      exact B1.neg
    exact q v' t' b' H4 N4 ((Bt0.le L.nt).mono (by decide)) ((B2.le L.nb).mono (by decide)) (G.trans (Go.of S4)) ((BX3.same S4).mono (by omega))

abbrev s__law_one_right : Stmt := topS 27
theorem sc__law_one_right : FnScope ["_law_number_here", "_law_a", "_law_b"] ["_law_number_here"] (defScope s__law_one_right) := ⟨rfl, rfl, rfl, by decide +kernel, rfl, by decide +kernel, by decide +kernel⟩
theorem fn__law_one_right {f : Addr} {fd : FuncData} (F : Fun K "_law_one_right" "_law_one_right" s__law_one_right f fd) (B : Bl mg) (c__law_is : Cal P w K mg base 2 "_law_is" ["_law_found", "_law_due"] spIs) (c__law_number : Cal P w K mg base 1 "_law_number" ["_law_upper", "_law_lower"] spLow) (c_bare_of : Cal P w K mg base 5 "bare_of" ["number"] spBare) (c_sign_of : Cal P w K mg base 4 "sign_of" ["number"] spSign) (c__law_pair : Cal P w K mg base 1 "_law_pair" ["_law_number_here"] spPair) (ck_floor_of_1_step : CalK P w K mg base 5 "floor_of" ["number", "step"] spFloor 1 ["step"] [] [0, 1]) (ck_floor_of_1 : CalK P w K mg base 5 "floor_of" ["number", "step"] spFloor 1 [] [V.int 1] [0, 1]) : FnOk P w K mg base CX0 6 f fd ["_law_number_here"] (spN 1 spOneR) := by
  refine fnN F sc__law_one_right (fun cdv A outer s H vs Q E hr h => ?_)
  obtain ⟨v, t, b, rfl, N, B1, B2, q⟩ := h
  refine ⟨_, (pss_cons (ps_asg (pe_cal c__law_pair hr (by decide) (by rfl) (pa_cons (pv 0) pa_nil)) (pg_tup (by rfl) (pgs_cons (pg_name (i := 1) sc__law_one_right.nd rfl (.inl rfl)) (pgs_cons (pg_name (i := 2) sc__law_one_right.nd rfl (.inl rfl)) pgs_nil))))
      (pss_cons (ps_if (PW.pt (pw_or (pt_not (pt_val (pe_cal c__law_is hr (by decide) (by rfl) (pa_cons (pe_cal c_sign_of hr (by decide) (by rfl) (pa_cons (pv 0) pa_nil)) (pa_cons (pe_op op_sub (pe_callTy call_intK (by rfl) B.b_int (by decide +kernel) (pa_cons (pe_cmpR op_gt (pv 1) pe_int (nomark _)) pa_nil)) (pe_callTy call_intK (by rfl) B.b_int (by decide +kernel) (pa_cons (pe_cmpR op_lt (pv 1) pe_int (nomark _)) pa_nil))) pa_nil))))) (pw_or1 (pt_not (pt_val (pe_cal c__law_is hr (by decide) (by rfl) (pa_cons (pe_cal c_bare_of hr (by decide) (by rfl) (pa_cons (pv 0) pa_nil)) (pa_cons (pe_cal c__law_number hr (by decide) (by rfl) (pa_cons (pe_callB call_absK (by rfl) B.b_abs (by decide +kernel) (pa_cons (pv 1) pa_nil)) (pa_cons (pv 2) pa_nil))) pa_nil)))))))) (pss_one (ps_ret pe_bl)) pss_nil)
      (pss_one (ps_ret (pe_and (pe_cal c__law_is hr (by decide) (by rfl) (pa_cons (pe_calK ck_floor_of_1 hr (by decide) (by rfl) (pa_cons (pv 0) pa_nil) pk_nil) (pa_cons (pe_op op_fdivA (pv 1) (pv 2)) pa_nil))) (pe_one (pe_cal c__law_is hr (by decide) (by rfl) (pa_cons (pe_calK ck_floor_of_1_step hr (by decide) (by rfl) (pa_cons (pv 0) pa_nil) (pk_cons pe_int pk_nil)) (pa_cons (pe_op op_fdivA (pv 1) (pv 2)) pa_nil))))))))), ?_⟩
  have hb := N.pos
  have one : (0 : Int) < 1 := by decide
  have B1m : Bt 1 1 := ⟨by decide⟩
  walk_at "rd"
  refine ⟨v, t, b, rfl, N, fun p H1 S1 hp => ?_⟩
  walk_at "rd"
  refine ⟨v, t, b, rfl, N.same S1, fun H2 S2 => ?_⟩
  walk_at "rd"
  have es : ((if decide (0 < t) = true then (1 : Int) else 0) - if decide (t < 0) = true then 1 else 0) = sgn t := by
    unfold sgn
    rcases Int.lt_trichotomy t 0 with z | z | z
    · rw [if_neg (by rw [decide_eq_false (by omega)]; decide), if_pos (decide_eq_true z), if_pos z]
      rfl
    · subst z
      rfl
    · rw [if_pos (decide_eq_true z), if_neg (by rw [decide_eq_false (by omega)]; decide), if_neg (by omega), if_pos z]
      rfl
  rw [es]
  refine ⟨_, _, _, _, rfl, Num.int, Num.int, fun H3 S3 => ?_⟩
  walk_at "rd"
  refine ⟨v, t, b, rfl, N.same ((S1.trans S2).trans S3), fun v1 H4 S4 N4 => ?_⟩
  walk_at "rd"
  refine ⟨_, b, rfl, by omega, B1.abs.mono (by decide), B2.mono (by decide), fun v2 H5 t' b' S5 N5 L => ?_⟩
  obtain ⟨e1, e2⟩ := N4.one N5 L.eq.symm
  subst e1 e2
  walk_at "rd"
  refine ⟨v1, v2, _, _, rfl, N4.same S5, N5, fun H6 S6 => ?_⟩
  have SA := ((((S1.trans S2).trans S3).trans S4).trans S5).trans S6
  walk_at "rd"
  refine ⟨v, .int 1, t, b, 1, 1, rfl, N.same SA, Num.int, one, B1.mono (by decide), B2.mono (by decide), B1m.mono (by decide), B1m.mono (by decide), fun v3 H7 t3 b3 S7 N7 L7 => ?_⟩
  walk_at "rd"
  refine q_I (divA (by omega) B2 (by decide)) ?_
  have ef : flo t b 1 1 = t.fdiv b := by
    unfold flo
    rw [Int.mul_one, Int.mul_one, Int.mul_one]
  rw [ef] at L7
  obtain ⟨e1, e2⟩ := N7.one (Num.int (H := H7) (t := t.fdiv b)) (by have := L7.eq; omega)
  subst e1 e2
  walk_at "rd"
  refine ⟨v3, _, _, _, rfl, N7, Num.int, fun H8 S8 => ?_⟩
  walk_at "rd"
  refine ⟨v, .int 1, t, b, 1, 1, rfl, N.same ((SA.trans S7).trans S8), Num.int, one, B1.mono (by decide), B2.mono (by decide), B1m.mono (by decide), B1m.mono (by decide), fun v4 H9 t4 b4 S9 N9 L9 => ?_⟩
  walk_at "rd"
  refine q_I (divA (by omega) B2 (by decide)) ?_
  rw [ef] at L9
  obtain ⟨e1, e2⟩ := N9.one (Num.int (H := H9) (t := t.fdiv b)) (by have := L9.eq; omega)
  subst e1 e2
  walk_at "rd"
  refine ⟨v4, _, _, _, rfl, N9, Num.int, fun H10 S10 => ?_⟩
  exact q _ ((((SA.trans S7).trans S8).trans S9).trans S10)

abbrev s__law_steps_right : Stmt := topS 28
theorem sc__law_steps_right : FnScope ["_law_box_here", "_law_number_here", "_law_a", "_law_b", "_law_size", "_law_c", "_law_d", "_law_whole"] ["_law_box_here", "_law_number_here"] (defScope s__law_steps_right) := ⟨rfl, rfl, rfl, by decide +kernel, rfl, by decide +kernel, by decide +kernel⟩
theorem fn__law_steps_right {f : Addr} {fd : FuncData} (F : Fun K "_law_steps_right" "_law_steps_right" s__law_steps_right f fd) (B : Bl mg) (c__law_is : Cal P w K mg base 2 "_law_is" ["_law_found", "_law_due"] spIs) (c__law_number : Cal P w K mg base 1 "_law_number" ["_law_upper", "_law_lower"] spLow) (c__law_take : Cal P w K mg base 1 "_law_take" ["_law_box_here", "_law_many"] spTake) (c__law_pair : Cal P w K mg base 1 "_law_pair" ["_law_number_here"] spPair) (c__law_floor : Cal P w K mg base 2 "_law_floor" ["_law_number_here", "_law_size"] spFloor) (c__law_drawn : Cal P w K mg base 3 "_law_drawn" ["_law_box_here"] spDrawn) (ck_floor_of_1_step : CalK P w K mg base 5 "floor_of" ["number", "step"] spFloor 1 ["step"] [] [0, 1]) : FnOk P w K mg base CX0 6 f fd ["_law_box_here", "_law_number_here"] (spN 2 spStepsR) := by
  refine fnN F sc__law_steps_right (fun cdv A outer s H vs Q E hr h => ?_)
  obtain ⟨bx, n, v, t, b, rfl, BX, N, B1, B2, hn, q⟩ := h
  refine ⟨_, (pss_cons (ps_asg (pe_cal c__law_pair hr (by decide) (by rfl) (pa_cons (pe_cal c__law_drawn hr (by decide) (by rfl) (pa_cons (pv 0) pa_nil)) pa_nil)) (pg_tup (by rfl) (pgs_cons (pg_name (i := 2) sc__law_steps_right.nd rfl (.inl rfl)) (pgs_cons (pg_name (i := 3) sc__law_steps_right.nd rfl (.inl rfl)) pgs_nil))))
      (pss_cons (ps_set (i := 4) sc__law_steps_right.nd rfl (.inl rfl) (pe_cal c__law_number hr (by decide) (by rfl) (pa_cons (pe_callB (call_maxK rfl) (by rfl) B.b_max (by decide +kernel) (pa_cons pe_int (pa_cons (pe_callB call_absK (by rfl) B.b_abs (by decide +kernel) (pa_cons (pv 2) pa_nil)) pa_nil))) (pa_cons (pv 3) pa_nil))))
      (pss_cons (ps_if (pt_not (pt_val (pe_cal c__law_is hr (by decide) (by rfl) (pa_cons (pe_calK ck_floor_of_1_step hr (by decide) (by rfl) (pa_cons (pv 1) pa_nil) (pk_cons (pv 4) pk_nil)) (pa_cons (pe_cal c__law_floor hr (by decide) (by rfl) (pa_cons (pv 1) (pa_cons (pv 4) pa_nil))) pa_nil))))) (pss_one (ps_ret pe_bl)) pss_nil)
      (pss_cons (ps_if (pt_not (pt_val (pe_cal c__law_is hr (by decide) (by rfl) (pa_cons (pe_calK ck_floor_of_1_step hr (by decide) (by rfl) (pa_cons (pv 1) pa_nil) (pk_cons pe_int pk_nil)) (pa_cons (pe_cal c__law_floor hr (by decide) (by rfl) (pa_cons (pv 1) (pa_cons pe_int pa_nil))) pa_nil))))) (pss_one (ps_ret pe_bl)) pss_nil)
      (pss_cons (ps_asg (pe_cal c__law_pair hr (by decide) (by rfl) (pa_cons (pv 4) pa_nil)) (pg_tup (by rfl) (pgs_cons (pg_name (i := 5) sc__law_steps_right.nd rfl (.inl rfl)) (pgs_cons (pg_name (i := 6) sc__law_steps_right.nd rfl (.inl rfl)) pgs_nil))))
      (pss_cons (ps_set (i := 7) sc__law_steps_right.nd rfl (.inl rfl) (pe_cal c__law_number hr (by decide) (by rfl) (pa_cons (pe_op op_mulW (pv 5) (pe_op op_sub (pe_cal c__law_take hr (by decide) (by rfl) (pa_cons (pv 0) (pa_cons pe_int pa_nil))) pe_int)) (pa_cons (pv 6) pa_nil))))
      (pss_one (ps_ret (pe_cal c__law_is hr (by decide) (by rfl) (pa_cons (pe_calK ck_floor_of_1_step hr (by decide) (by rfl) (pa_cons (pv 7) pa_nil) (pk_cons (pv 4) pk_nil)) (pa_cons (pv 7) pa_nil))))))))))), ?_⟩
  walk_at "rd"
  refine ⟨bx, n, rfl, BX, by omega, fun v1 t1 b1 H1 N1 C1 C2 G1 BX1 => ?_⟩
  walk_at "rd"
  refine ⟨v1, t1, b1, rfl, N1, fun p H2 S2 hp => ?_⟩
  walk_at "rd"
  have hb1 := N1.pos
  have C1a := C1.abs
  have Bm := C1a.max1 (by decide)
  have m0 := max1_pos (if t1 < 0 then -t1 else t1)
  generalize (if (if t1 < 0 then -t1 else t1) > 1 then (if t1 < 0 then -t1 else t1) else 1) = c at Bm m0
  refine ⟨c, b1, rfl, by omega, Bm.mono (by decide), C2.mono (by decide), fun sz H3 c' d' S3 NS LS => ?_⟩
  have c0 : 0 < c' := by
    have h1 := LS.eq
    have h2 := NS.pos
    have h3 := Int.mul_pos m0 h2
    rw [← h1, Int.mul_comm] at h3
    exact Int.pos_of_mul_pos_right h3 hb1
  have Dc := Bm.le LS.nt
  have Dd := C2.le LS.nb
  have S23 := S2.trans S3
  have G3 := G1.trans (Go.of (bx := bx) S23)
  have N3 := (N.go BX G1).same S23
  walk_at "rd"
  refine ⟨v, sz, t, b, c', d', rfl, N3, NS, c0, B1.mono (by decide), B2.mono (by decide), Dc.mono (by decide), Dd.mono (by decide), fun f1 H4 t4 b4 S4 N4 L4 => ?_⟩
  walk_at "rd"
  refine ⟨v, sz, t, b, c', d', rfl, N3.same S4, NS.same S4, c0, B1.mono (by decide), B2.mono (by decide), Dc.mono (by decide), Dd.mono (by decide), fun f2 H5 t5 b5 S5 N5 L5 => ?_⟩
  obtain ⟨e1, e2⟩ := N4.one N5 (low_eq L4 L5 (by have := NS.pos; omega))
  subst e1 e2
  walk_at "rd"
  refine ⟨f1, f2, _, _, rfl, N4.same S5, N5, fun H6 S6 => ?_⟩
  have SB := (S4.trans S5).trans S6
  have B64 : Bt 10 64 := ⟨by decide⟩
  have B1m : Bt 1 1 := ⟨by decide⟩
  walk_at "rd"
  refine ⟨v, .int 64, t, b, 64, 1, rfl, N3.same SB, Num.int, by decide, B1.mono (by decide), B2.mono (by decide), B64.mono (by decide), B1m.mono (by decide), fun f3 H7 t7 b7 S7 N7 L7 => ?_⟩
  walk_at "rd"
  refine ⟨v, .int 64, t, b, 64, 1, rfl, N3.same (SB.trans S7), Num.int, by decide, B1.mono (by decide), B2.mono (by decide), B64.mono (by decide), B1m.mono (by decide), fun f4 H8 t8 b8 S8 N8 L8 => ?_⟩
  obtain ⟨e1, e2⟩ := N7.one N8 (low_eq L7 L8 (by decide))
  subst e1 e2
  walk_at "rd"
  refine ⟨f3, f4, _, _, rfl, N7.same S8, N8, fun H9 S9 => ?_⟩
  have SC := ((SB.trans S7).trans S8).trans S9
  walk_at "rd"
  refine ⟨sz, c', d', rfl, NS.same SC, fun p2 H10 S10 hp2 => ?_⟩
  have SD := SC.trans S10
  walk_at "rd"
  have BX10 := (BX1.same S23).same SD
  refine ⟨bx, 41, _, rfl, BX10, by decide, (Bt.small (by decide) (by decide)).mono (by decide), by omega, fun d H11 d0 d1 G11 BX11 => ?_⟩
  walk_at "rd"
  have Bs : Bt 63 (d - 20) := Bt.small (by omega) (by omega)
  refine q_I (mulW Dc Bs (by decide)) ?_
  walk_at "rd"
  refine ⟨c' * (d - 20), d', rfl, by have := NS.pos; omega, (Dc.mul Bs).mono (by decide), Dd.mono (by decide), fun w H12 t12 b12 S12 N12 L12 => ?_⟩
  have NS12 := (((NS.same SD).go BX10 G11).same S12)
  walk_at "rd"
  refine ⟨w, sz, t12, b12, c', d', rfl, N12, NS12, c0, ((Dc.mul Bs).le L12.nt).mono (by decide), (Dd.le L12.nb).mono (by decide), Dc.mono (by decide), Dd.mono (by decide), fun f5 H13 t13 b13 S13 N13 L13 => ?_⟩
  obtain ⟨e1, e2⟩ := N13.one (N12.same S13) (flo_self N12.pos NS12.pos c0 L12.eq L13.eq)
  subst e1 e2
  walk_at "rd"
  refine ⟨f5, w, _, _, rfl, N13, N12.same S13, fun H14 S14 => ?_⟩
  exact q H14 (((((G3.trans (Go.of SD)).trans G11).trans (Go.of S12)).trans (Go.of S13)).trans (Go.of S14)) ((((BX11.same S12).same S13).same S14).mono (by omega))

abbrev s_law : Stmt := topS 29
theorem sc_law : FnScope ["_law_script", "_law_k", "_law_box_here", "_law_some", "_law_number_here", "_law_a", "_law_b", "_law_second", "_law_c", "_law_d", "_law_found"] ["_law_script"] (defScope s_law) := ⟨rfl, rfl, rfl, by decide +kernel, rfl, by decide +kernel, by decide +kernel⟩
theorem fn_law_vk03 {f : Addr} {fd : FuncData} (F : Fun K "law" "law" s_law f fd) (B : Bl mg) (c_less : Cal P w K mg base 4 "less" ["one", "other"] spLess) (c__law_pair : Cal P w K mg base 1 "_law_pair" ["_law_number_here"] spPair) (c__law_steps_right : Cal P w K mg base 6 "_law_steps_right" ["_law_box_here", "_law_number_here"] spStepsR) (c__law_one_right : Cal P w K mg base 6 "_law_one_right" ["_law_number_here"] spOneR) (c__law_near : Cal P w K mg base 2 "_law_near" ["_law_box_here", "_law_number_here"] spNear) (c__law_drawn : Cal P w K mg base 3 "_law_drawn" ["_law_box_here"] spDrawn) (c__law_box : Cal P w K mg base 1 "_law_box" ["_law_cell_here"] spBox) (c__law_cell : Cal P w K mg base 1 "_law_cell" ["_law_script", "_law_k"] (spCell K)) (ck_less_1_other : CalK P w K mg base 4 "less" ["one", "other"] spLess 1 ["other"] [] [0, 1]) : FnG P w K mg base 7 f fd ["_law_script"] (spN 1 (spLaw K)) := by
  refine fnG F sc_law (fun cdv A outer s H vs Q E hgd hr h => ?_)
  obtain ⟨a, ns, rfl, hS, hlen, q⟩ := h
  refine ⟨_, (pss_cons (ps_for PassesOwn.never (by rfl) (pi_range1 (by rfl) B.b_range (pa_cons (pe_callB (call_maxK rfl) (by rfl) B.b_max (by decide +kernel) (pa_cons pe_int (pa_cons (pe_callB (call_minK rfl) (by rfl) B.b_min (by decide +kernel) (pa_cons pe_int (pa_cons (pe_callB call_lenK (by rfl) B.b_len (by decide +kernel) (pa_cons (pv 0) pa_nil)) pa_nil))) pa_nil))) pa_nil)) (pg_name (i := 1) sc_law.nd rfl (.inl rfl)) (pss_cons (ps_set (i := 2) sc_law.nd rfl (.inl rfl) (pe_cal c__law_box hr (by decide) (by rfl) (pa_cons (pe_cal c__law_cell hr (by decide) (by rfl) (pa_cons (pv 0) (pa_cons (pv 1) pa_nil))) pa_nil)))
      (pss_cons (ps_set (i := 3) sc_law.nd rfl (.inl rfl) (pe_lst (pa_cons (pe_cal c__law_drawn hr (by decide) (by rfl) (pa_cons (pv 2) pa_nil)) (pa_cons (pe_cal c__law_drawn hr (by decide) (by rfl) (pa_cons (pv 2) pa_nil)) pa_nil))))
      (pss_cons (ps_set (i := 3) sc_law.nd rfl (.inl rfl) (pe_op op_cat (pv 3) (pe_lst (pa_cons (pe_cal c__law_near hr (by decide) (by rfl) (pa_cons (pv 2) (pa_cons (pe_ix ix_list (pv 3) pe_int (fun _ _ => rfl)) pa_nil))) (pa_cons (pe_cal c__law_near hr (by decide) (by rfl) (pa_cons (pv 2) (pa_cons (pe_ix ix_list (pv 3) pe_int (fun _ _ => rfl)) pa_nil))) pa_nil)))))
      (pss_one (ps_for PassesOwn.never (by rfl) (pi_list (pv 3)) (pg_name (i := 4) sc_law.nd rfl (.inl rfl)) (pss_cons (ps_if (PW.pt (pw_or (pt_not (pt_val (pe_cal c__law_one_right hr (by decide) (by rfl) (pa_cons (pv 4) pa_nil)))) (pw_or1 (pt_not (pt_val (pe_cal c__law_steps_right hr (by decide) (by rfl) (pa_cons (pv 2) (pa_cons (pv 4) pa_nil)))))))) (pss_one (ps_ret pe_bl)) pss_nil)
      (pss_cons (ps_asg (pe_cal c__law_pair hr (by decide) (by rfl) (pa_cons (pv 4) pa_nil)) (pg_tup (by rfl) (pgs_cons (pg_name (i := 5) sc_law.nd rfl (.inl rfl)) (pgs_cons (pg_name (i := 6) sc_law.nd rfl (.inl rfl)) pgs_nil))))
      (pss_one (ps_for PassesOwn.never (by rfl) (pi_list (pv 3)) (pg_name (i := 7) sc_law.nd rfl (.inl rfl)) (pss_cons (ps_asg (pe_cal c__law_pair hr (by decide) (by rfl) (pa_cons (pv 7) pa_nil)) (pg_tup (by rfl) (pgs_cons (pg_name (i := 8) sc_law.nd rfl (.inl rfl)) (pgs_cons (pg_name (i := 9) sc_law.nd rfl (.inl rfl)) pgs_nil))))
      (pss_cons (ps_set (i := 10) sc_law.nd rfl (.inl rfl) (pe_lst (pa_cons (pe_cal c_less hr (by decide) (by rfl) (pa_cons (pv 4) (pa_cons (pv 7) pa_nil))) (pa_cons (pe_calK ck_less_1_other hr (by decide) (by rfl) (pa_cons (pv 7) pa_nil) (pk_cons (pv 4) pk_nil)) pa_nil))))
      (pss_one (ps_if (pt_cmpR op_ne (pe_callB (call_reprD hgd hr.units) (by rfl) B.b_repr (by decide +kernel) (pa_cons (pv 10) pa_nil)) (pe_callB (call_reprD hgd hr.units) (by rfl) B.b_repr (by decide +kernel) (pa_cons (pe_lst (pa_cons (pe_cmpR op_lt (pe_op op_mulW (pv 5) (pv 9)) (pe_op op_mulW (pv 8) (pv 6)) (nomark _)) (pa_cons (pe_cmpR op_lt (pe_op op_mulW (pv 8) (pv 6)) (pe_op op_mulW (pv 5) (pv 9)) (nomark _)) pa_nil))) pa_nil)) (nomark _)) (pss_one (ps_ret pe_bl)) pss_nil))))))))))))))
      (pss_one (ps_ret pe_bl))), ?_⟩
  walk_at "rd"
  refine q_lenL hS ?_
  walk_at "rd"
  generalize hN : (if (if ((ns.map V.int).length : Int) < 8 then ((ns.map V.int).length : Int) else 8) > 2 then (if ((ns.map V.int).length : Int) < 8 then ((ns.map V.int).length : Int) else 8) else 2) = N
  have hN0 : 0 ≤ N ∧ N ≤ 8 := by
    subst hN
    split <;> split <;> omega
  refine ⟨N, rfl, by omega, by omega, ?_⟩
  refine for_range (lo := 0) (n := N.toNat) (fun i σ H' => ∃ v1 v2 v3 v4 v5 v6 v7 v8 v9 v10 : Option V, σ = [some (.ref a), v1, v2, v3, v4, v5, v6, v7, v8, v9, v10] ∧ Same H H') ⟨none, none, none, none, none, none, none, none, none, none, rfl, Same.refl H⟩ ?_ (fun σ H' ⟨v1, v2, v3, v4, v5, v6, v7, v8, v9, v10, hσ, hs⟩ => by
    subst hσ
    walk_at "rd"
    exact q H')
  rintro i σ H1 hi ⟨v1, v2, v3, v4, v5, v6, v7, v8, v9, v10, rfl, S1⟩
  walk_at "rd"
  rw [Int.zero_add]
  refine ⟨a, ns, i, rfl, S1.seq hS, by omega, fun x => ?_⟩
  walk_at "rd"
  refine ⟨x, rfl, fun bx ba bb np ha0 hb0 hb1 => ?_⟩
  have S2 := S1.trans (Same.up (o := .lst [.int ba, .int bb, .int 0]) np)
  have BX : Box (upd H1 bx (.lst [.int ba, .int bb, .int 0])) bx 0 := ⟨ba, bb, 0, upd_same, ha0, hb0, hb1, by decide, by decide⟩
  have fr : H bx = none := S1.free np
  generalize upd H1 bx (.lst [.int ba, .int bb, .int 0]) = H2 at S2 BX
  walk_at "rd"
  refine ⟨bx, _, rfl, BX, by omega, fun u1 t1 b1 H3 N1 C1 D1 G1 BX1 => ?_⟩
  walk_at "rd"
  refine ⟨bx, _, rfl, BX1, by omega, fun u2 t2 b2 H4 N2 C2 D2 G2 BX2 => ?_⟩
  walk_at "rd"
  intro p1 np1
  have S5 := Same.up (o := .lst [u1, u2]) np1
  have hp1 : (upd H4 p1 (.lst [u1, u2])) p1 = some (.lst [u1, u2]) := upd_same
  have nb1 := BX2.fresh np1
  have BX5 := BX2.same S5
  have N1 := (N1.go BX1 G2).same S5
  have N2 := N2.same S5
  have GA := ((Go.of (bx := bx) S2).trans (G1.trans G2)).trans (Go.of S5)
  generalize upd H4 p1 (.lst [u1, u2]) = H5 at S5 hp1 BX5 N1 N2 GA
  walk_at "rd"
  refine ⟨bx, _, u1, t1, b1, rfl, BX5, N1, C1, D1, by omega, fun u3 t3 b3 H6 N3 C3 D3 G6 BX6 => ?_⟩
  have hp1 := G6 _ _ hp1 nb1
  walk_at "rd"
  refine ⟨bx, _, u2, t2, b2, rfl, BX6, N2.go BX5 G6, C2, D2, by omega, fun u4 t4 b4 H7 N4 C4 D4 G7 BX7 => ?_⟩
  have hp1 := G7 _ _ hp1 nb1
  walk_at "rd"
  intro p2 np2
  refine ⟨p1, p2, _, _, rfl, rfl, (Same.up np2) _ _ hp1, upd_same, Nat.le_of_lt (small1000 (Nat.le_of_ble_eq_true rfl)), fun p3 np3 => ?_⟩
  have S8 : Same H7 (upd (upd H7 p2 (.lst [u3, u4])) p3 (.lst [u1, u2, u3, u4])) := (Same.up np2).trans (Same.up np3)
  have hp3 : (upd (upd H7 p2 (.lst [u3, u4])) p3 (.lst [u1, u2, u3, u4])) p3 = some (.lst [u1, u2, u3, u4]) := upd_same
  have nb3 := (BX7.same (Same.up np2)).fresh np3
  have BX8 := BX7.same S8
  have IT : ∀ v, v ∈ [u1, u2, u3, u4] → ∃ t b, Num (upd (upd H7 p2 (.lst [u3, u4])) p3 (.lst [u1, u2, u3, u4])) v t b ∧ Bt 140 t ∧ Bt 140 b := by
    intro v hv
    rcases List.mem_cons.mp hv with e | hv
    · rw [e]
      exact ⟨t1, b1, ((N1.go BX5 G6).go BX6 G7).same S8, C1.mono (by decide), D1.mono (by decide)⟩
    rcases List.mem_cons.mp hv with e | hv
    · rw [e]
      exact ⟨t2, b2, ((N2.go BX5 G6).go BX6 G7).same S8, C2.mono (by decide), D2.mono (by decide)⟩
    rcases List.mem_cons.mp hv with e | hv
    · rw [e]
      exact ⟨t3, b3, (N3.go BX6 G7).same S8, C3, D3⟩
    rcases List.mem_cons.mp hv with e | hv
    · rw [e]
      exact ⟨t4, b4, N4.same S8, C4, D4⟩
    · cases hv
  have SH : Same H (upd (upd H7 p2 (.lst [u3, u4])) p3 (.lst [u1, u2, u3, u4])) := Go.same fr (((GA.trans G6).trans G7).trans (Go.of S8))
  have hL : [u1, u2, u3, u4].length = 4 := rfl
  change gName 3 (V.ref p3) _ (upd (upd H7 p2 (.lst [u3, u4])) p3 (.lst [u1, u2, u3, u4])) _
  generalize upd (upd H7 p2 (.lst [u3, u4])) p3 (.lst [u1, u2, u3, u4]) = H8 at IT hp3 SH S8 BX8 ⊢
  generalize [u1, u2, u3, u4] = L at IT hp3 hL
  walk_at "rd"
  refine ⟨p3, rfl, ⟨_, SqL.of hp3⟩, ?_⟩
  refine for_list (K := K) (a := p3) (xs := L) (fun j σ H' => ∃ w4 w5 w6 w7 w8 w9 w10 : Option V, σ = [some (.ref a), some (.int (i : Int)), some (.ref bx), some (.ref p3), w4, w5, w6, w7, w8, w9, w10] ∧ Same H H' ∧ Box H' bx (1000 + 200 * j) ∧ H' p3 = some (.lst L) ∧ ∀ v, v ∈ L → ∃ t b, Num H' v t b ∧ Bt 140 t ∧ Bt 140 b)
    ⟨_, _, _, _, _, _, _, rfl, SH, BX8.mono (by omega), hp3, IT⟩ (fun _ _ _ _ ⟨_, _, _, _, _, _, _, _, _, _, h, _⟩ => SqL.of h) ?_ ?_
  · rintro j x σ H9 hx ⟨w4, w5, w6, w7, w8, w9, w10, rfl, SH9, BX9, hp9, IT9⟩
    have hj : j < 4 := by
      have := (List.getElem?_eq_some_iff.mp hx).1
      omega
    have hxm := List.mem_of_getElem? hx
    obtain ⟨t, b, N9, Ct, Cb⟩ := IT9 x hxm
    walk_at "rd"
    refine ⟨x, t, b, rfl, N9, Ct, Cb, fun H10 S10 => ?_⟩
    walk_at "rd"
    refine ⟨bx, _, x, t, b, rfl, BX9.same S10, N9.same S10, Ct, Cb, by omega, fun H11 G11 BX11 => ?_⟩
    walk_at "rd"
    have hp11 := G11 _ _ (S10 _ _ hp9) nb3
    have IT11 : ∀ v, v ∈ L → ∃ t b, Num H11 v t b ∧ Bt 140 t ∧ Bt 140 b := fun v hv => by
      obtain ⟨t', b', h1, h2⟩ := IT9 v hv
      exact ⟨t', b', (h1.same S10).go (BX9.same S10) G11, h2⟩
    have SH11 : Same H H11 := Go.same fr (((Go.of SH9).trans (Go.of S10)).trans G11)
    have N11 := (N9.same S10).go (BX9.same S10) G11
    clear N9 IT9 hp9
    refine ⟨x, t, b, rfl, N11, fun p H12 S12 hp => ?_⟩
    walk_at "rd"
    refine ⟨p3, rfl, ⟨_, SqL.of (S12 _ _ hp11)⟩, ?_⟩
    refine for_list (K := K) (a := p3) (xs := L) (fun m σ H' => ∃ w7 w8 w9 w10 : Option V, σ = [some (.ref a), some (.int (i : Int)), some (.ref bx), some (.ref p3), some x, some (.int t), some (.int b), w7, w8, w9, w10] ∧ Same H11 H')
      ⟨_, _, _, _, rfl, S12⟩ (fun _ _ H' _ ⟨_, _, _, _, _, h⟩ => SqL.of (h _ _ hp11)) ?_ ?_
    · rintro m y σ H13 hy ⟨w7, w8, w9, w10, rfl, S13⟩
      obtain ⟨s0, d, N13, Cs, Cd⟩ := IT11 y (List.mem_of_getElem? hy)
      have Nx := N11.same S13
      have Ny := N13.same S13
      walk_at "rd"
      refine ⟨y, s0, d, rfl, Ny, fun p' H14 S14 hp' => ?_⟩
      walk_at "rd"
      refine ⟨x, y, t, b, s0, d, rfl, Nx.same S14, Ny.same S14, Ct.mono (by decide), Cb.mono (by decide), Cs.mono (by decide), Cd.mono (by decide), fun H15 S15 => ?_⟩
      walk_at "rd"
      have S145 := S14.trans S15
      refine ⟨y, x, s0, d, t, b, rfl, Ny.same S145, Nx.same S145, Cs.mono (by decide), Cd.mono (by decide), Ct.mono (by decide), Cb.mono (by decide), fun H16 S16 => ?_⟩
      walk_at "rd"
      intro p4 np4
      walk_at "rd"
      refine q_reprB upd_same ?_
      walk_at "rd"
      refine q_I (mulW Ct Cd (by decide)) ?_
      walk_at "rd"
      refine q_I (mulW Cs Cb (by decide)) ?_
      walk_at "rd"
      refine q_I (mulW Cs Cb (by decide)) ?_
      walk_at "rd"
      refine q_I (mulW Ct Cd (by decide)) ?_
      walk_at "rd"
      intro p5 np5
      walk_at "rd"
      refine q_reprB upd_same ?_
      refine q_neS ?_
      walk_at "rd"
      exact ⟨_, _, _, _, rfl, ((S13.trans S145).trans S16).trans ((Same.up np4).trans (Same.up np5))⟩
    · rintro σ H13 ⟨w7, w8, w9, w10, rfl, S13⟩
      refine ⟨_, _, _, _, _, _, _, rfl, SH11.trans S13, (BX11.same S13).mono (by omega), S13 _ _ hp11, fun v hv => ?_⟩
      obtain ⟨t', b', h1, h2⟩ := IT11 v hv
      exact ⟨t', b', h1.same S13, h2⟩
  · rintro σ H9 ⟨w4, w5, w6, w7, w8, w9, w10, rfl, SH9, _⟩
    exact ⟨_, _, _, _, _, _, _, _, _, _, rfl, SH9⟩
end
/-! what the top has written -/
theorem all_mk {l : PySem.W.OpenLaw} {w : World} {K : PySem.W.Frag} {h : Heap} {mg : Str → Option Value} {fa : Addr} (X : K.In h) (G : h.Ns mainGlobals mg) (hfa : mg "law" = some (.ref fa))
    {f0 : Addr} {od0 an0 : Option Addr} {sl0 : Array (Option Value)} {oc0 dc0 pm0 cd0 ct0 : Value} {kV0 : Value}
    (a0 : PySem.W.nsIn K mainGlobals "is_int" = some (some (.ref f0))) (l0 : K.lookup f0 = some ⟨oc0, od0, .func (PySem.W.fnOf "is_int" "is_int" (defArgs s_is_int) (defBody s_is_int) (defScope s_is_int) .none kV0 dc0 pm0 an0 cd0 ct0), sl0⟩) (c0 : PySem.W.codeIn K cd0 "is_int" = true) (k0 : PySem.W.keepIn K (.ref f0) = true)
    {f1 : Addr} {od1 an1 : Option Addr} {sl1 : Array (Option Value)} {oc1 dc1 pm1 cd1 ct1 : Value} {kV1 : Value}
    (a1 : PySem.W.nsIn K mainGlobals "is_number" = some (some (.ref f1))) (l1 : K.lookup f1 = some ⟨oc1, od1, .func (PySem.W.fnOf "is_number" "is_number" (defArgs s_is_number) (defBody s_is_number) (defScope s_is_number) .none kV1 dc1 pm1 an1 cd1 ct1), sl1⟩) (c1 : PySem.W.codeIn K cd1 "is_number" = true) (k1 : PySem.W.keepIn K (.ref f1) = true)
    {f2 : Addr} {od2 an2 : Option Addr} {sl2 : Array (Option Value)} {oc2 dc2 pm2 cd2 ct2 : Value} {kV2 : Value}
    (a2 : PySem.W.nsIn K mainGlobals "need_number" = some (some (.ref f2))) (l2 : K.lookup f2 = some ⟨oc2, od2, .func (PySem.W.fnOf "need_number" "need_number" (defArgs s_need_number) (defBody s_need_number) (defScope s_need_number) .none kV2 dc2 pm2 an2 cd2 ct2), sl2⟩) (c2 : PySem.W.codeIn K cd2 "need_number" = true) (k2 : PySem.W.keepIn K (.ref f2) = true)
    {f3 : Addr} {od3 an3 : Option Addr} {sl3 : Array (Option Value)} {oc3 dc3 pm3 cd3 ct3 : Value} {kV3 : Value}
    (a3 : PySem.W.nsIn K mainGlobals "pair_of" = some (some (.ref f3))) (l3 : K.lookup f3 = some ⟨oc3, od3, .func (PySem.W.fnOf "pair_of" "pair_of" (defArgs s_pair_of) (defBody s_pair_of) (defScope s_pair_of) .none kV3 dc3 pm3 an3 cd3 ct3), sl3⟩) (c3 : PySem.W.codeIn K cd3 "pair_of" = true) (k3 : PySem.W.keepIn K (.ref f3) = true)
    {f4 : Addr} {od4 an4 : Option Addr} {sl4 : Array (Option Value)} {oc4 dc4 pm4 cd4 ct4 : Value} {kV4 : Value}
    (a4 : PySem.W.nsIn K mainGlobals "lowest" = some (some (.ref f4))) (l4 : K.lookup f4 = some ⟨oc4, od4, .func (PySem.W.fnOf "lowest" "lowest" (defArgs s_lowest) (defBody s_lowest) (defScope s_lowest) .none kV4 dc4 pm4 an4 cd4 ct4), sl4⟩) (c4 : PySem.W.codeIn K cd4 "lowest" = true) (k4 : PySem.W.keepIn K (.ref f4) = true)
    {f5 : Addr} {od5 an5 : Option Addr} {sl5 : Array (Option Value)} {oc5 dc5 pm5 cd5 ct5 : Value} {kV5 : Value}
    (a5 : PySem.W.nsIn K mainGlobals "_negated" = some (some (.ref f5))) (l5 : K.lookup f5 = some ⟨oc5, od5, .func (PySem.W.fnOf "_negated" "_negated" (defArgs s__negated) (defBody s__negated) (defScope s__negated) .none kV5 dc5 pm5 an5 cd5 ct5), sl5⟩) (c5 : PySem.W.codeIn K cd5 "_negated" = true) (k5 : PySem.W.keepIn K (.ref f5) = true)
    {f6 : Addr} {od6 an6 : Option Addr} {sl6 : Array (Option Value)} {oc6 dc6 pm6 cd6 ct6 : Value} {kV6 : Value}
    (a6 : PySem.W.nsIn K mainGlobals "_is_less" = some (some (.ref f6))) (l6 : K.lookup f6 = some ⟨oc6, od6, .func (PySem.W.fnOf "_is_less" "_is_less" (defArgs s__is_less) (defBody s__is_less) (defScope s__is_less) .none kV6 dc6 pm6 an6 cd6 ct6), sl6⟩) (c6 : PySem.W.codeIn K cd6 "_is_less" = true) (k6 : PySem.W.keepIn K (.ref f6) = true)
    {f7 : Addr} {od7 an7 : Option Addr} {sl7 : Array (Option Value)} {oc7 dc7 pm7 cd7 ct7 : Value} {kV7 : Value}
    (a7 : PySem.W.nsIn K mainGlobals "sign_of" = some (some (.ref f7))) (l7 : K.lookup f7 = some ⟨oc7, od7, .func (PySem.W.fnOf "sign_of" "sign_of" (defArgs s_sign_of) (defBody s_sign_of) (defScope s_sign_of) .none kV7 dc7 pm7 an7 cd7 ct7), sl7⟩) (c7 : PySem.W.codeIn K cd7 "sign_of" = true) (k7 : PySem.W.keepIn K (.ref f7) = true)
    {f8 : Addr} {od8 an8 : Option Addr} {sl8 : Array (Option Value)} {oc8 dc8 pm8 cd8 ct8 : Value} {kV8 : Value}
    (a8 : PySem.W.nsIn K mainGlobals "bare_of" = some (some (.ref f8))) (l8 : K.lookup f8 = some ⟨oc8, od8, .func (PySem.W.fnOf "bare_of" "bare_of" (defArgs s_bare_of) (defBody s_bare_of) (defScope s_bare_of) .none kV8 dc8 pm8 an8 cd8 ct8), sl8⟩) (c8 : PySem.W.codeIn K cd8 "bare_of" = true) (k8 : PySem.W.keepIn K (.ref f8) = true)
    {f9 : Addr} {od9 an9 : Option Addr} {sl9 : Array (Option Value)} {oc9 dc9 pm9 cd9 ct9 : Value} {kV9 : Value}
    (a9 : PySem.W.nsIn K mainGlobals "less" = some (some (.ref f9))) (l9 : K.lookup f9 = some ⟨oc9, od9, .func (PySem.W.fnOf "less" "less" (defArgs s_less) (defBody s_less) (defScope s_less) .none kV9 dc9 pm9 an9 cd9 ct9), sl9⟩) (c9 : PySem.W.codeIn K cd9 "less" = true) (k9 : PySem.W.keepIn K (.ref f9) = true)
    {f10 : Addr} {od10 an10 : Option Addr} {sl10 : Array (Option Value)} {oc10 dc10 pm10 cd10 ct10 : Value}
    {D10 : Addr}
    (a10 : PySem.W.nsIn K mainGlobals "floor_of" = some (some (.ref f10))) (l10 : K.lookup f10 = some ⟨oc10, od10, .func (PySem.W.fnOf "floor_of" "floor_of" (defArgs s_floor_of) (defBody s_floor_of) (defScope s_floor_of) .none (.ref D10) dc10 pm10 an10 cd10 ct10), sl10⟩) (c10 : PySem.W.codeIn K cd10 "floor_of" = true) (k10 : PySem.W.keepIn K (.ref f10) = true)
    {tq10_step : Tok} (q10_step : PySem.W.nsIn K D10 "step" = some (some (.int 1 tq10_step)))
    {f11 : Addr} {od11 an11 : Option Addr} {sl11 : Array (Option Value)} {oc11 dc11 pm11 cd11 ct11 : Value} {kV11 : Value}
    (a11 : PySem.W.nsIn K mainGlobals "_law_cell" = some (some (.ref f11))) (l11 : K.lookup f11 = some ⟨oc11, od11, .func (PySem.W.fnOf "_law_cell" "_law_cell" (defArgs s__law_cell) (defBody s__law_cell) (defScope s__law_cell) .none kV11 dc11 pm11 an11 cd11 ct11), sl11⟩) (c11 : PySem.W.codeIn K cd11 "_law_cell" = true) (k11 : PySem.W.keepIn K (.ref f11) = true)
    {f12 : Addr} {od12 an12 : Option Addr} {sl12 : Array (Option Value)} {oc12 dc12 pm12 cd12 ct12 : Value} {kV12 : Value}
    (a12 : PySem.W.nsIn K mainGlobals "_law_box" = some (some (.ref f12))) (l12 : K.lookup f12 = some ⟨oc12, od12, .func (PySem.W.fnOf "_law_box" "_law_box" (defArgs s__law_box) (defBody s__law_box) (defScope s__law_box) .none kV12 dc12 pm12 an12 cd12 ct12), sl12⟩) (c12 : PySem.W.codeIn K cd12 "_law_box" = true) (k12 : PySem.W.keepIn K (.ref f12) = true)
    {f13 : Addr} {od13 an13 : Option Addr} {sl13 : Array (Option Value)} {oc13 dc13 pm13 cd13 ct13 : Value} {kV13 : Value}
    (a13 : PySem.W.nsIn K mainGlobals "_law_take" = some (some (.ref f13))) (l13 : K.lookup f13 = some ⟨oc13, od13, .func (PySem.W.fnOf "_law_take" "_law_take" (defArgs s__law_take) (defBody s__law_take) (defScope s__law_take) .none kV13 dc13 pm13 an13 cd13 ct13), sl13⟩) (c13 : PySem.W.codeIn K cd13 "_law_take" = true) (k13 : PySem.W.keepIn K (.ref f13) = true)
    {f14 : Addr} {od14 an14 : Option Addr} {sl14 : Array (Option Value)} {oc14 dc14 pm14 cd14 ct14 : Value} {kV14 : Value}
    (a14 : PySem.W.nsIn K mainGlobals "_law_far" = some (some (.ref f14))) (l14 : K.lookup f14 = some ⟨oc14, od14, .func (PySem.W.fnOf "_law_far" "_law_far" (defArgs s__law_far) (defBody s__law_far) (defScope s__law_far) .none kV14 dc14 pm14 an14 cd14 ct14), sl14⟩) (c14 : PySem.W.codeIn K cd14 "_law_far" = true) (k14 : PySem.W.keepIn K (.ref f14) = true)
    {f15 : Addr} {od15 an15 : Option Addr} {sl15 : Array (Option Value)} {oc15 dc15 pm15 cd15 ct15 : Value} {kV15 : Value}
    (a15 : PySem.W.nsIn K mainGlobals "_law_number" = some (some (.ref f15))) (l15 : K.lookup f15 = some ⟨oc15, od15, .func (PySem.W.fnOf "_law_number" "_law_number" (defArgs s__law_number) (defBody s__law_number) (defScope s__law_number) .none kV15 dc15 pm15 an15 cd15 ct15), sl15⟩) (c15 : PySem.W.codeIn K cd15 "_law_number" = true) (k15 : PySem.W.keepIn K (.ref f15) = true)
    {f16 : Addr} {od16 an16 : Option Addr} {sl16 : Array (Option Value)} {oc16 dc16 pm16 cd16 ct16 : Value} {kV16 : Value}
    (a16 : PySem.W.nsIn K mainGlobals "_law_pair" = some (some (.ref f16))) (l16 : K.lookup f16 = some ⟨oc16, od16, .func (PySem.W.fnOf "_law_pair" "_law_pair" (defArgs s__law_pair) (defBody s__law_pair) (defScope s__law_pair) .none kV16 dc16 pm16 an16 cd16 ct16), sl16⟩) (c16 : PySem.W.codeIn K cd16 "_law_pair" = true) (k16 : PySem.W.keepIn K (.ref f16) = true)
    {f17 : Addr} {od17 an17 : Option Addr} {sl17 : Array (Option Value)} {oc17 dc17 pm17 cd17 ct17 : Value} {kV17 : Value}
    (a17 : PySem.W.nsIn K mainGlobals "_law_is" = some (some (.ref f17))) (l17 : K.lookup f17 = some ⟨oc17, od17, .func (PySem.W.fnOf "_law_is" "_law_is" (defArgs s__law_is) (defBody s__law_is) (defScope s__law_is) .none kV17 dc17 pm17 an17 cd17 ct17), sl17⟩) (c17 : PySem.W.codeIn K cd17 "_law_is" = true) (k17 : PySem.W.keepIn K (.ref f17) = true)
    {f18 : Addr} {od18 an18 : Option Addr} {sl18 : Array (Option Value)} {oc18 dc18 pm18 cd18 ct18 : Value} {kV18 : Value}
    (a18 : PySem.W.nsIn K mainGlobals "_law_drawn" = some (some (.ref f18))) (l18 : K.lookup f18 = some ⟨oc18, od18, .func (PySem.W.fnOf "_law_drawn" "_law_drawn" (defArgs s__law_drawn) (defBody s__law_drawn) (defScope s__law_drawn) .none kV18 dc18 pm18 an18 cd18 ct18), sl18⟩) (c18 : PySem.W.codeIn K cd18 "_law_drawn" = true) (k18 : PySem.W.keepIn K (.ref f18) = true)
    {f19 : Addr} {od19 an19 : Option Addr} {sl19 : Array (Option Value)} {oc19 dc19 pm19 cd19 ct19 : Value} {kV19 : Value}
    (a19 : PySem.W.nsIn K mainGlobals "_law_floor" = some (some (.ref f19))) (l19 : K.lookup f19 = some ⟨oc19, od19, .func (PySem.W.fnOf "_law_floor" "_law_floor" (defArgs s__law_floor) (defBody s__law_floor) (defScope s__law_floor) .none kV19 dc19 pm19 an19 cd19 ct19), sl19⟩) (c19 : PySem.W.codeIn K cd19 "_law_floor" = true) (k19 : PySem.W.keepIn K (.ref f19) = true)
    {f20 : Addr} {od20 an20 : Option Addr} {sl20 : Array (Option Value)} {oc20 dc20 pm20 cd20 ct20 : Value} {kV20 : Value}
    (a20 : PySem.W.nsIn K mainGlobals "_law_near" = some (some (.ref f20))) (l20 : K.lookup f20 = some ⟨oc20, od20, .func (PySem.W.fnOf "_law_near" "_law_near" (defArgs s__law_near) (defBody s__law_near) (defScope s__law_near) .none kV20 dc20 pm20 an20 cd20 ct20), sl20⟩) (c20 : PySem.W.codeIn K cd20 "_law_near" = true) (k20 : PySem.W.keepIn K (.ref f20) = true)
    {f21 : Addr} {od21 an21 : Option Addr} {sl21 : Array (Option Value)} {oc21 dc21 pm21 cd21 ct21 : Value} {kV21 : Value}
    (a21 : PySem.W.nsIn K mainGlobals "_law_one_right" = some (some (.ref f21))) (l21 : K.lookup f21 = some ⟨oc21, od21, .func (PySem.W.fnOf "_law_one_right" "_law_one_right" (defArgs s__law_one_right) (defBody s__law_one_right) (defScope s__law_one_right) .none kV21 dc21 pm21 an21 cd21 ct21), sl21⟩) (c21 : PySem.W.codeIn K cd21 "_law_one_right" = true) (k21 : PySem.W.keepIn K (.ref f21) = true)
    {f22 : Addr} {od22 an22 : Option Addr} {sl22 : Array (Option Value)} {oc22 dc22 pm22 cd22 ct22 : Value} {kV22 : Value}
    (a22 : PySem.W.nsIn K mainGlobals "_law_steps_right" = some (some (.ref f22))) (l22 : K.lookup f22 = some ⟨oc22, od22, .func (PySem.W.fnOf "_law_steps_right" "_law_steps_right" (defArgs s__law_steps_right) (defBody s__law_steps_right) (defScope s__law_steps_right) .none kV22 dc22 pm22 an22 cd22 ct22), sl22⟩) (c22 : PySem.W.codeIn K cd22 "_law_steps_right" = true) (k22 : PySem.W.keepIn K (.ref f22) = true)
    {f23 : Addr} {od23 an23 : Option Addr} {sl23 : Array (Option Value)} {oc23 dc23 pm23 cd23 ct23 : Value} {kV23 : Value}
    (a23 : PySem.W.nsIn K mainGlobals "law" = some (some (.ref f23))) (l23 : K.lookup f23 = some ⟨oc23, od23, .func (PySem.W.fnOf "law" "law" (defArgs s_law) (defBody s_law) (defScope s_law) .none kV23 dc23 pm23 an23 cd23 ct23), sl23⟩) (c23 : PySem.W.codeIn K cd23 "law" = true) (k23 : PySem.W.keepIn K (.ref f23) = true)
    (z_isinstance : PySem.W.nsIn K mainGlobals "isinstance" = some none)
    (z_bool : PySem.W.nsIn K mainGlobals "bool" = some none)
    (z_int : PySem.W.nsIn K mainGlobals "int" = some none)
    (z_gcd : PySem.W.nsIn K mainGlobals "gcd" = some (some (.builtin "math.gcd")))
    (z_len : PySem.W.nsIn K mainGlobals "len" = some none)
    (z_tuple : PySem.W.nsIn K mainGlobals "tuple" = some none)
    (z_max : PySem.W.nsIn K mainGlobals "max" = some none)
    (z_range : PySem.W.nsIn K mainGlobals "range" = some none)
    (z_abs : PySem.W.nsIn K mainGlobals "abs" = some none)
    (z_min : PySem.W.nsIn K mainGlobals "min" = some none)
    (z_repr : PySem.W.nsIn K mainGlobals "repr" = some none)
    : ∃ fd : FuncData, (∀ (s : Shared) (v : Value), BindsTo s fd ⟨[v], []⟩ [("_law_script", v)]) ∧ ∀ base : Heap, K.In base → base.Ns mainGlobals mg → FnG l.prog w K mg base 7 fa fd ["_law_script"] (spN 1 (spLaw K)) := by
  have e := hfa.symm.trans (PySem.W.mg_of X G a23)
  cases e
  refine ⟨PySem.W.fnOf "law" "law" (defArgs s_law) (defBody s_law) (defScope s_law) .none kV23 dc23 pm23 an23 cd23 ct23, fun s v => .of_eq rfl, fun base _ _ => ?_⟩
  have B : Bl mg := ⟨PySem.W.mg_none_of X G z_isinstance, PySem.W.mg_none_of X G z_bool, PySem.W.mg_none_of X G z_int, PySem.W.mg_of X G z_gcd, PySem.W.mg_none_of X G z_len, PySem.W.mg_none_of X G z_tuple, PySem.W.mg_none_of X G z_max, PySem.W.mg_none_of X G z_range, PySem.W.mg_none_of X G z_abs, PySem.W.mg_none_of X G z_min, PySem.W.mg_none_of X G z_repr⟩
  have g0 := PySem.W.mg_of X G a0
  have F0 := fun_mk (st := s_is_int) l0 c0 k0
  have g1 := PySem.W.mg_of X G a1
  have F1 := fun_mk (st := s_is_number) l1 c1 k1
  have g2 := PySem.W.mg_of X G a2
  have F2 := fun_mk (st := s_need_number) l2 c2 k2
  have g3 := PySem.W.mg_of X G a3
  have F3 := fun_mk (st := s_pair_of) l3 c3 k3
  have g4 := PySem.W.mg_of X G a4
  have F4 := fun_mk (st := s_lowest) l4 c4 k4
  have g5 := PySem.W.mg_of X G a5
  have F5 := fun_mk (st := s__negated) l5 c5 k5
  have g6 := PySem.W.mg_of X G a6
  have F6 := fun_mk (st := s__is_less) l6 c6 k6
  have g7 := PySem.W.mg_of X G a7
  have F7 := fun_mk (st := s_sign_of) l7 c7 k7
  have g8 := PySem.W.mg_of X G a8
  have F8 := fun_mk (st := s_bare_of) l8 c8 k8
  have g9 := PySem.W.mg_of X G a9
  have F9 := fun_mk (st := s_less) l9 c9 k9
  have g10 := PySem.W.mg_of X G a10
  have F10 : FunD K "floor_of" "floor_of" (defArgs s_floor_of) (defBody s_floor_of) (defScope s_floor_of) [] [("step", V.int 1)] f10 _ := ⟨⟨_, _, _, _, _, _, _, _, _, _, rfl, l10, c10, .inl ⟨rfl, rfl⟩, .inr ⟨D10, rfl, fun q hq => by
      simp only [List.mem_cons, List.not_mem_nil, or_false] at hq
      subst hq
      exact ⟨_, q10_step, ⟨_, rfl⟩⟩⟩⟩, k10⟩
  have g11 := PySem.W.mg_of X G a11
  have F11 := fun_mk (st := s__law_cell) l11 c11 k11
  have g12 := PySem.W.mg_of X G a12
  have F12 := fun_mk (st := s__law_box) l12 c12 k12
  have g13 := PySem.W.mg_of X G a13
  have F13 := fun_mk (st := s__law_take) l13 c13 k13
  have g14 := PySem.W.mg_of X G a14
  have F14 := fun_mk (st := s__law_far) l14 c14 k14
  have g15 := PySem.W.mg_of X G a15
  have F15 := fun_mk (st := s__law_number) l15 c15 k15
  have g16 := PySem.W.mg_of X G a16
  have F16 := fun_mk (st := s__law_pair) l16 c16 k16
  have g17 := PySem.W.mg_of X G a17
  have F17 := fun_mk (st := s__law_is) l17 c17 k17
  have g18 := PySem.W.mg_of X G a18
  have F18 := fun_mk (st := s__law_drawn) l18 c18 k18
  have g19 := PySem.W.mg_of X G a19
  have F19 := fun_mk (st := s__law_floor) l19 c19 k19
  have g20 := PySem.W.mg_of X G a20
  have F20 := fun_mk (st := s__law_near) l20 c20 k20
  have g21 := PySem.W.mg_of X G a21
  have F21 := fun_mk (st := s__law_one_right) l21 c21 k21
  have g22 := PySem.W.mg_of X G a22
  have F22 := fun_mk (st := s__law_steps_right) l22 c22 k22
  have g23 := PySem.W.mg_of X G a23
  have F23 := fun_mk (st := s_law) l23 c23 k23
  have n_is_int := fn_is_int (P := l.prog) (w := w) (base := base) F0 B 
  have c_is_int := calN n_is_int g0 F0 (fun _ _ _ _ _ _ us hl => match us, hl with | [_], _ => rfl)
  have n_is_number := fn_is_number (P := l.prog) (w := w) (base := base) F1 B c_is_int
  have c_is_number := calN n_is_number g1 F1 (fun _ _ _ _ _ _ us hl => match us, hl with | [_], _ => rfl)
  have n_need_number := fn_need_number (P := l.prog) (w := w) (base := base) F2 B c_is_number
  have c_need_number := calN n_need_number g2 F2 (fun _ _ _ _ _ _ us hl => match us, hl with | [_], _ => rfl)
  have n_pair_of := fn_pair_of (P := l.prog) (w := w) (base := base) F3 B 
  have c_pair_of := calN n_pair_of g3 F3 (fun _ _ _ _ _ _ us hl => match us, hl with | [_], _ => rfl)
  have n_lowest := fn_lowest (P := l.prog) (w := w) (base := base) F4 B 
  have c_lowest := calN n_lowest g4 F4 (fun _ _ _ _ _ _ us hl => match us, hl with | [_, _], _ => rfl)
  have n__negated := fn__negated (P := l.prog) (w := w) (base := base) F5 B c_pair_of
  have c__negated := calN n__negated g5 F5 (fun _ _ _ _ _ _ us hl => match us, hl with | [_], _ => rfl)
  have n__is_less := fn__is_less (P := l.prog) (w := w) (base := base) F6 B c_pair_of
  have c__is_less := calN n__is_less g6 F6 (fun _ _ _ _ _ _ us hl => match us, hl with | [_, _], _ => rfl)
  have n_sign_of := fn_sign_of (P := l.prog) (w := w) (base := base) F7 B c_pair_of c_need_number
  have c_sign_of := calN n_sign_of g7 F7 (fun _ _ _ _ _ _ us hl => match us, hl with | [_], _ => rfl)
  have n_bare_of := fn_bare_of (P := l.prog) (w := w) (base := base) F8 B c_sign_of c__negated
  have c_bare_of := calN n_bare_of g8 F8 (fun _ _ _ _ _ _ us hl => match us, hl with | [_], _ => rfl)
  have n_less := fn_less (P := l.prog) (w := w) (base := base) F9 B c__is_less c_need_number
  have c_less := calN n_less g9 F9 (fun _ _ _ _ _ _ us hl => match us, hl with | [_, _], _ => rfl)
  have ck_less_1_other := calK n_less g9 F9 1 ["other"] [0, 1] (fun _ _ _ _ _ _ us ws h1 h2 => match us, h1, ws, h2 with | [_], _, [_], _ => rfl)
  have n_floor_of := fn_floor_of (P := l.prog) (w := w) (base := base) F10 B c_lowest c_pair_of c_sign_of c_need_number
  have ck_floor_of_1_step := calKD n_floor_of g10 F10 1 ["step"] [] [0, 1] (by intro z; cases z) (fun q hq => nomatch hq) (fun _ _ _ _ _ _ us mv ws h1 h2 h3 => match us, h1, mv, h2, ws, h3 with | [_], _, [], _, [_], _ => rfl)
  have ck_floor_of_1 := calKD n_floor_of g10 F10 1 [] [("step", V.int 1)] [0, 1] (by intro z; cases z) (by intro q hq; simp only [List.mem_cons, List.not_mem_nil, or_false] at hq; subst hq; simp) (fun _ _ _ _ _ _ us mv ws h1 h2 h3 => match us, h1, mv, h2, ws, h3 with | [_], _, [_], _, [], _ => ⟨_, _, _, _, _, _, rfl, rfl, rfl⟩)
  have n__law_cell := fn__law_cell (P := l.prog) (w := w) (base := base) F11 B 
  have c__law_cell := calN n__law_cell g11 F11 (fun _ _ _ _ _ _ us hl => match us, hl with | [_, _], _ => rfl)
  have n__law_box := fn__law_box (P := l.prog) (w := w) (base := base) F12 B 
  have c__law_box := calN n__law_box g12 F12 (fun _ _ _ _ _ _ us hl => match us, hl with | [_], _ => rfl)
  have n__law_take := fn__law_take (P := l.prog) (w := w) (base := base) F13 B 
  have c__law_take := calN n__law_take g13 F13 (fun _ _ _ _ _ _ us hl => match us, hl with | [_, _], _ => rfl)
  have n__law_far := fn__law_far (P := l.prog) (w := w) (base := base) F14 B c__law_take
  have c__law_far := calN n__law_far g14 F14 (fun _ _ _ _ _ _ us hl => match us, hl with | [_], _ => rfl)
  have n__law_number := fn__law_number (P := l.prog) (w := w) (base := base) F15 B 
  have c__law_number := calN n__law_number g15 F15 (fun _ _ _ _ _ _ us hl => match us, hl with | [_, _], _ => rfl)
  have n__law_pair := fn__law_pair (P := l.prog) (w := w) (base := base) F16 B 
  have c__law_pair := calN n__law_pair g16 F16 (fun _ _ _ _ _ _ us hl => match us, hl with | [_], _ => rfl)
  have n__law_is_v0 := fn__law_is_v0 (P := l.prog) (w := w) (base := base) F17 B 
  have c__law_is_v0 := calN n__law_is_v0 g17 F17 (fun _ _ _ _ _ _ us hl => match us, hl with | [_, _], _ => rfl)
  have n__law_is := fn__law_is (P := l.prog) (w := w) (base := base) F17 B c__law_is_v0
  have c__law_is := calN n__law_is g17 F17 (fun _ _ _ _ _ _ us hl => match us, hl with | [_, _], _ => rfl)
  have n__law_drawn := fn__law_drawn (P := l.prog) (w := w) (base := base) F18 B c__law_number c__law_far c__law_take
  have c__law_drawn := calN n__law_drawn g18 F18 (fun _ _ _ _ _ _ us hl => match us, hl with | [_], _ => rfl)
  have n__law_floor := fn__law_floor (P := l.prog) (w := w) (base := base) F19 B c__law_number c__law_pair
  have c__law_floor := calN n__law_floor g19 F19 (fun _ _ _ _ _ _ us hl => match us, hl with | [_, _], _ => rfl)
  have n__law_near := fn__law_near (P := l.prog) (w := w) (base := base) F20 B c__law_number c__law_take c__law_pair
  have c__law_near := calN n__law_near g20 F20 (fun _ _ _ _ _ _ us hl => match us, hl with | [_, _], _ => rfl)
  have n__law_one_right := fn__law_one_right (P := l.prog) (w := w) (base := base) F21 B c__law_is c__law_number c_bare_of c_sign_of c__law_pair ck_floor_of_1_step ck_floor_of_1
  have c__law_one_right := calN n__law_one_right g21 F21 (fun _ _ _ _ _ _ us hl => match us, hl with | [_], _ => rfl)
  have n__law_steps_right := fn__law_steps_right (P := l.prog) (w := w) (base := base) F22 B c__law_is c__law_number c__law_take c__law_pair c__law_floor c__law_drawn ck_floor_of_1_step
  have c__law_steps_right := calN n__law_steps_right g22 F22 (fun _ _ _ _ _ _ us hl => match us, hl with | [_, _], _ => rfl)
  exact fn_law_vk03 (P := l.prog) (w := w) (base := base) F23 B c_less c__law_pair c__law_steps_right c__law_one_right c__law_near c__law_drawn c__law_box c__law_cell ck_less_1_other
end HP
open PySem PySem.W PyProof.Rows
set_option maxHeartbeats 0 in
theorem PySem.Challenge.cw_hintedpoints_k03_numbers_compared_holds : PySem.Challenge.rw_hintedpoints_k03_numbers_compared.Holds := by
  w_on; o_law; k_head; (case hw => w_witness2)
  k_fill
  refine HP.walkG (l := PySem.Challenge.rw_hintedpoints_k03_numbers_compared) (n := 63) (k := 7) (x := "_law_script") (sp := fun w => HP.spN 1 (HP.spLaw _)) rfl (by decide) rfl ⟨rfl, by decide, by decide⟩ (fun w h Y => PySem.W.kIn_of Y) ?F (fun _ _ a ns hl _ hS => ⟨rfl, a, ns, rfl, hS, hl, fun _ => rfl⟩)
  case F =>
    intro w mg fa h KX G hmg
    refine' HP.all_mk KX G hmg ?a0 ?l0 ?c0 ?k0 ?a1 ?l1 ?c1 ?k1 ?a2 ?l2 ?c2 ?k2 ?a3 ?l3 ?c3 ?k3 ?a4 ?l4 ?c4 ?k4 ?a5 ?l5 ?c5 ?k5 ?a6 ?l6 ?c6 ?k6 ?a7 ?l7 ?c7 ?k7 ?a8 ?l8 ?c8 ?k8 ?a9 ?l9 ?c9 ?k9 ?a10 ?l10 ?c10 ?k10 ?q10_step ?a11 ?l11 ?c11 ?k11 ?a12 ?l12 ?c12 ?k12 ?a13 ?l13 ?c13 ?k13 ?a14 ?l14 ?c14 ?k14 ?a15 ?l15 ?c15 ?k15 ?a16 ?l16 ?c16 ?k16 ?a17 ?l17 ?c17 ?k17 ?a18 ?l18 ?c18 ?k18 ?a19 ?l19 ?c19 ?k19 ?a20 ?l20 ?c20 ?k20 ?a21 ?l21 ?c21 ?k21 ?a22 ?l22 ?c22 ?k22 ?a23 ?l23 ?c23 ?k23 ?z_isinstance ?z_bool ?z_int ?z_gcd ?z_len ?z_tuple ?z_max ?z_range ?z_abs ?z_min ?z_repr
    (case a0 => k_is); (case l0 => k_is); (case c0 => k_is); (case k0 => k_is); (case a1 => k_is); (case l1 => k_is); (case c1 => k_is); (case k1 => k_is); (case a2 => k_is); (case l2 => k_is); (case c2 => k_is); (case k2 => k_is); (case a3 => k_is); (case l3 => k_is); (case c3 => k_is); (case k3 => k_is); (case a4 => k_is); (case l4 => k_is); (case c4 => k_is); (case k4 => k_is); (case a5 => k_is); (case l5 => k_is); (case c5 => k_is); (case k5 => k_is); (case a6 => k_is); (case l6 => k_is); (case c6 => k_is); (case k6 => k_is); (case a7 => k_is); (case l7 => k_is); (case c7 => k_is); (case k7 => k_is); (case a8 => k_is); (case l8 => k_is); (case c8 => k_is); (case k8 => k_is); (case a9 => k_is); (case l9 => k_is); (case c9 => k_is); (case k9 => k_is); (case a10 => k_is); (case l10 => k_is); (case c10 => k_is); (case k10 => k_is); (case q10_step => k_is); (case a11 => k_is); (case l11 => k_is); (case c11 => k_is); (case k11 => k_is); (case a12 => k_is); (case l12 => k_is); (case c12 => k_is); (case k12 => k_is); (case a13 => k_is); (case l13 => k_is); (case c13 => k_is); (case k13 => k_is); (case a14 => k_is); (case l14 => k_is); (case c14 => k_is); (case k14 => k_is); (case a15 => k_is); (case l15 => k_is); (case c15 => k_is); (case k15 => k_is); (case a16 => k_is); (case l16 => k_is); (case c16 => k_is); (case k16 => k_is); (case a17 => k_is); (case l17 => k_is); (case c17 => k_is); (case k17 => k_is); (case a18 => k_is); (case l18 => k_is); (case c18 => k_is); (case k18 => k_is); (case a19 => k_is); (case l19 => k_is); (case c19 => k_is); (case k19 => k_is); (case a20 => k_is); (case l20 => k_is); (case c20 => k_is); (case k20 => k_is); (case a21 => k_is); (case l21 => k_is); (case c21 => k_is); (case k21 => k_is); (case a22 => k_is); (case l22 => k_is); (case c22 => k_is); (case k22 => k_is); (case a23 => k_is); (case l23 => k_is); (case c23 => k_is); (case k23 => k_is); (case z_isinstance => k_is); (case z_bool => k_is); (case z_int => k_is); (case z_gcd => k_is); (case z_len => k_is); (case z_tuple => k_is); (case z_max => k_is); (case z_range => k_is); (case z_abs => k_is); (case z_min => k_is); (case z_repr => k_is)
