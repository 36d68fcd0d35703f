import PyProof.Rows.All
import Wide.All
import OpenK.AllK
import Wide.FinOn
import HandS.ForMost
import HandS.Evl
import KE.KStateDown
import HandS.Wide
import HandS.WideBits
import HandS.StrMore
import HandS.SortInts
import HandS.IsInst
import HandS.FStr
import HandS.Conv
import HandS.Defaults
import HandS.WordsExc
import HandS.Head0
import HandS.Head1
import HandS.Head2
import HandS.HeadEnd
import HandS.HeadHook1
import HandS.HeadHook2
import PySem.Challenge.RW_unpressed_k15_numbers_in_bits
set_option Elab.async false
set_option maxRecDepth 100000
set_option maxHeartbeats 4000000
namespace My
open PySem PySem.W PySem.Calls PyProof.Rows PySem.Builtin PySem.Builtin.Str PySem.Builtin.Int
/-- a number's digits to base two -/
def binT (n : Nat) : PySem.Str := ⟨((Nat.toDigits 2 n).map Char.toNat).toArray⟩
theorem fmt_b {a : Int} {t : Tok} (h0 : 0 ≤ a) (hL : (binT a.natAbs).length ≤ sizeLine) (u : Tok) : Meets («int.__format__» ⟨[.int a t, .str (⟨#[98]⟩ : PySem.Str) u], []⟩) (fun _ R s => ∀ t' k, R (.ok (.ret (.str (binT a.natAbs) t'))) { s with toks := k }) := by
  apply KPc.meets_of
  intro prog w A s Q E hq
  unfold Builtin.«int.__format__»
  refine wpAny_bind (wpAny_of_eq (a := (_, _)) rfl ?_)
  refine wpAny_bind (wpAny_of_eq (a := _) rfl ?_)
  kxf_if
  refine wpAny_bind (wpAny_typeNameOf (T := "str") (typeIs_str _ _ _) (by decide) fun _ => ?_)
  refine wpAny_bind (wpAny_of_eq (a := some _) rfl ?_)
  kxf_if
  kxf_if
  refine wpAny_bind (wpAny_typeNameOfCut_int ?_)
  (repeat kxf_if)
  refine (fun (e : _ = binT a.natAbs) => KXf.ret_text e (by rw [e]; exact hL) hq) ?e
  case e =>
    have hn : decide (a < 0) = false := decide_eq_false (by omega)
    have hD : Nat.toDigits 2 a.natAbs ≠ [] := Nat.toDigits_ne_nil
    rw [hn]
    unfold binT
    generalize Nat.toDigits 2 a.natAbs = D at hD ⊢
    conv => lhs; whnf
    have z : ∀ n : Nat, (-1 - (n : Int)).toNat = 0 := fun n => by omega
    simp [hD, Option.isNone, List.head?, z]
    trace_state
end My

set_option Elab.async false
set_option linter.all false
set_option maxRecDepth 100000
set_option maxHeartbeats 4000000
namespace My
open PySem PySem.Spec PyProof.Rows L2 Evl
/-! ### defs at their names -/
structure Dn (P : Program) (w : World) (K : PySem.W.Frag) (mg : Str → Option Value) (base : Heap) (k : Nat) (x : Str) (st : Stmt) (ps : List Str) (sp : Sp) : Prop where
  ex : ∃ (f : Addr) (fd : FuncData), FunD K x x (defArgs st) (defBody st) (defScope st) [] [] f fd ∧ FnOk P w K mg base CX0 k f fd ps sp ∧ mg x = some (.ref f) ∧ Binds K fd ps []
/-- the same for a call by keywords ks -/
structure Kd (P : Program) (w : World) (K : PySem.W.Frag) (mg : Str → Option Value) (base : Heap) (k : Nat) (x : Str) (n : Nat) (ks : List Str) (gV : List V → List V → List V) (sp : Sp) : Prop where
  ex : ∃ (f : Addr) (fd : FuncData) (ps : List Str) (g : List Value → List Value → List Value), FnOk P w K mg base CX0 k f fd ps sp ∧ mg x = some (.ref f) ∧ PySem.W.keepIn K (.ref f) = true ∧ KBn K fd ps n ks g gV
abbrev FnP (K : PySem.W.Frag) (x : Str) (st : Stmt) (f : Addr) (fd : FuncData) : Prop := FunD K x x (defArgs st) (defBody st) (defScope st) [] [] f fd
structure At (K : PySem.W.Frag) (mg : Str → Option Value) (x : Str) (st : Stmt) : Prop where
  ex : ∃ (f : Addr) (fd : FuncData), FnP K x st f fd ∧ mg x = some (.ref f)
section
variable {P : Program} {w : World} {K : PySem.W.Frag} {mg : Str → Option Value} {base : Heap} {x : Str} {st : Stmt} {N ps : List Str} {k : Nat} {sp : Sp}
theorem FunD.kbn {K : PySem.W.Frag} {x qual : Str} {params : Arguments} {body : List Stmt} {scope : Scope} {kws : List (Str × V)} {f : Addr} {fd : FuncData} {ps : List Str} (F : FunD K x qual params body scope [] kws f fd) (n : Nat) (ks : List Str) (g : List Value → List Value → List Value) (gV : List V → List V → List V)
    (h : ∀ (kV doc pm : Value) (an : Option Addr) (cdv ct : Value) (us ws : List Value), us.length = n → ws.length = ks.length → bindArgs (PySem.W.fnOf x qual params body scope .none kV doc pm an cdv ct) ⟨us, ks.zip ws⟩ = pure (ps.zip (g us ws)))
    (hr : ∀ {vs : List V} {us : List Value} {zs : List V} {ws : List Value}, Vals vs us → Vals zs ws → Vals (gV vs zs) (g us ws)) : KBn K fd ps n ks g gV := by
  obtain ⟨oc, od, dV, kV, doc, pm, an, cdv, ct, osl, rfl, lk, hcd, hD, hK⟩ := F.ex
  rcases hD with ⟨_, rfl⟩ | ⟨e, _⟩
  · exact ⟨fun s us ws _ l1 l2 => .of_eq (h kV doc pm an cdv ct us ws l1 l2), hr⟩
  · exact absurd rfl e
theorem dn_ok (F : At K mg x st) (S : FnScope N ps (defScope st))
    (hb : ∀ (kV doc pm : Value) (an : Option Addr) (cdv ct : Value) (us : List Value), us.length = ps.length → bindArgs (PySem.W.fnOf x x (defArgs st) (defBody st) (defScope st) .none kV doc pm an cdv ct) ⟨us, []⟩ = pure (ps.zip us))
    (len : ∀ vs H Q E, sp vs H Q E → vs.length = ps.length)
    (hbody : ∀ (f : Addr) (cdv : Value) (A : Around) (outer : List Env) (s : Shared) (H : Hp) (vs : List V) (Q : VK) (E : XK), Room k (A.deeper (envOfC x (defScope st) s.heap.objs.size f cdv)) → sp vs H Q E →
      ∃ t, PSs (cxOf CX0 P w K mg base N x (defScope st) f cdv A outer s H E).nox (defBody st) t ∧ t { nx := fun _ H' => Q .non H', rt := Q } (start N vs) H) : Dn P w K mg base (k + 1) x st ps sp := by
  obtain ⟨f, fd, F, g⟩ := F.ex
  refine ⟨f, fd, F, FunD.ok F S len (fun cdv A outer s H vs Q E hr h => ?_), g, F.bindsN hb⟩
  obtain ⟨t, h1, h2⟩ := hbody f cdv A outer s H vs Q E hr h
  exact ⟨t, PSs.nox h1, h2⟩
/-- one function object stands at one address -/
theorem fd_one {K : PySem.W.Frag} {x : Str} {st st' : Stmt} {f : Addr} {fd fd' : FuncData} (F : FnP K x st f fd) (F' : FnP K x st' f fd') : fd = fd' := by
  obtain ⟨oc, od, dV, kV, doc, pm, an, cdv, ct, osl, h1, lk, _⟩ := F.ex
  obtain ⟨oc2, od2, dV2, kV2, doc2, pm2, an2, cdv2, ct2, osl2, h2, lk2, _⟩ := F'.ex
  rw [lk] at lk2
  simp only [Option.some.injEq, Obj.mk.injEq, Data.func.injEq] at lk2
  exact lk2.2.2.1
/-- a call by keywords of a def that keeps its promise -/
theorem kd_of (D : Dn P w K mg base k x st ps sp) (n : Nat) (ks : List Str) (g : List Value → List Value → List Value) (gV : List V → List V → List V)
    (h : ∀ (kV doc pm : Value) (an : Option Addr) (cdv ct : Value) (us ws : List Value), us.length = n → ws.length = ks.length → bindArgs (PySem.W.fnOf x x (defArgs st) (defBody st) (defScope st) .none kV doc pm an cdv ct) ⟨us, ks.zip ws⟩ = pure (ps.zip (g us ws)))
    (hr : ∀ {vs : List V} {us : List Value} {zs : List V} {ws : List Value}, Vals vs us → Vals zs ws → Vals (gV vs zs) (g us ws)) : Kd P w K mg base k x n ks gV sp := by
  obtain ⟨f, fd, F, FO, g1, _⟩ := D.ex
  exact ⟨f, fd, ps, g, FO, g1, F.kp, FunD.kbn F n ks g gV h hr⟩
end
section
variable {X : Cx} {k j n : Nat} {x : Str} {p pos : Pos} {ps ks : List Str} {sp : Sp} {gV : List V → List V → List V} {e : Expr} {es : List Expr} {kws : List Keyword} {t tk : TA}
theorem pe_dn {st : Stmt} (D : Dn X.prog X.w X.K X.mg X.base k x st ps sp) (hr : Room j X.A) (hk : k ≤ j) (hg : Gl X x) (ha : PA X (e :: es) t) (hdb : (x == ("__debug__" : Str)) = false := by decide)
    (he : starEach (e :: es) X.env = (false, eval e X.env) :: starEach es X.env := by rfl) (hpl : (backTo pos (starEach es X.env)).any (·.1) = false := by rfl) : PE X (.Call (.Name x p) (e :: es) [] pos) (tCall sp [] E0 t) := by
  obtain ⟨f, fd, FD, F, hm, hb⟩ := D.ex
  exact pe_call F (hr.mono hk) hg hm FD.kp hb .nil pass0 ha (hdb := hdb) (he := he) (hpl := hpl)
theorem pe_kd (D : Kd X.prog X.w X.K X.mg X.base k x 0 ks gV sp) (hr : Room j X.A) (hk' : k ≤ j) (hg : Gl X x) (hkw : PK X kws tk)
    (hall : (backToKw pos (keywordEach kws X.env)).all (·.1.isSome) = true := by rfl) (hks : (backToKw pos (keywordEach kws X.env)).filterMap (·.1) = ks := by rfl)
    (hdb : (x == ("__debug__" : Str)) = false := by decide)
    (hpl : ((backTo pos (starEach [] X.env)).any (·.1) || (backToKw pos (keywordEach kws X.env)).any (·.1.isNone)) = false := by rfl) :
    PE X (.Call (.Name x p) [] kws pos) (tCallN 0 ks.length sp gV E0 tNil tk) := by
  obtain ⟨f, fd, ps, g, F, hm, hk, hb⟩ := D.ex
  refine ⟨fun pins s σ H Q I h => ?_⟩
  refine wpAny_Call_Name_kw (ld_glob I hg hm ?_ hdb)
  refine PySem.W.callWith_KW0 (h₀ := X.base) I.ok.mod.kin hk hall (thn (hkw.run pos pins s σ H _ I h) fun ws s2 ⟨zs, H2, I2, rz, l1, l2, q2⟩ => ⟨I2.kIn, ?_⟩) hpl
  rw [hks]
  exact run_fnN F (hr.mono hk') hb pass0 I2 .nil rz l1 l2 q2
/-- a built-in type by its name -/
theorem pe_tyn (T : String) {x : Str} {pos : Pos} (hg : Gl X x) (hm : X.mg x = none) (hv : bootBuiltins x = some (.type T)) (hn : x ≠ "__name__" := by decide) (hd : (x == ("__debug__" : Str)) = false := by decide) : PE X (.Name x pos) (tC (.ty T)) := pe_bltn hg hm hv (show RelV (.ty T) (.type T) from rfl) hn hd
/-- f'{x:b}' of a number not below 0 -/
def tFmtB (te : TE) : TE := fun σ H Q => te σ H fun x H1 => ∃ i : Int, x = .int i ∧ 0 ≤ i ∧ (binT i.natAbs).length ≤ sizeLine ∧ Q (.str (binT i.natAbs)) H1
theorem pe_fmtB {te : TE} {pos p1 p2 : Pos} {j : Nat} (he : PE X e te) : PE X (.FormattedValue e (-1) (some (.JoinedStr [.Constant (.str "b") j p1] p2)) pos) (tFmtB te) := by
  refine ⟨fun pins s σ H Q I h => ?_⟩
  refine wpAny_FormattedValue_spec (thn (he.run pins s σ H _ I h) fun v s1 hv => ?_)
  obtain ⟨x, H1, I1, r1, i, rfl, h0, hz, q⟩ := hv
  obtain ⟨t, rfl⟩ := r1
  have hs : PE X (.JoinedStr [.Constant (.str "b") j p1] p2) (tC (.str "b")) := pe_joined1 pe_str
  refine thn (hs.run pins s1 σ H1 (fun v H' => v = .str "b" ∧ H' = H1) I1 ⟨rfl, rfl⟩) fun v2 s2 hv2 => ?_
  obtain ⟨y, H2, I2, r2, rfl, rfl⟩ := hv2
  obtain ⟨t2, rfl⟩ := r2
  refine ⟨_, _, rfl, PySem.W.KXf.field_int (spec' := ⟨#[98]⟩) (by decide +kernel) rfl (by decide) (fun u => fmt_b h0 hz u) fun t' k => ?_⟩
  exact ⟨.str _, _, I2.tok _, ⟨_, rfl⟩, q⟩
end
/-! ### readings -/
section
variable {K : PySem.W.Frag} {σ : L2.St} {H : Hp} {ta tb te : TE} {x y z v : V} {D : Ends} {tu tz : TS}
def rInt1 : List V → Hp → VK → Prop := fun xs H Q => (∃ i, xs = [.int i] ∧ Q (.int i) H) ∨ ∃ k, xs = [.bl k] ∧ Q (.int (if k then 1 else 0)) H
theorem ev_int {i : Int} (h : Ev te σ H (.int i)) : Ev (tCB rInt1 (tCons te tNil)) σ H (.int i) := fun H1 e Q q => h H1 e _ fun H2 e2 => Or.inl ⟨i, rfl, q H2 e2⟩
theorem ev_intB {b : Bool} (h : Ev te σ H (.bl b)) : Ev (tCB rInt1 (tCons te tNil)) σ H (.int (if b then 1 else 0)) := fun H1 e Q q => h H1 e _ fun H2 e2 => Or.inr ⟨b, rfl, q H2 e2⟩
def rMin2 : List V → Hp → VK → Prop := fun xs H Q => ∃ i j, xs = [.int i, .int j] ∧ Q (.int (if j < i then j else i)) H
theorem ev_min2 {i j : Int} (ha : Ev ta σ H (.int i)) (hb : Ev tb σ H (.int j)) : Ev (tCB rMin2 (tCons ta (tCons tb tNil))) σ H (.int (if j < i then j else i)) := fun H1 e Q q =>
  ha H1 e _ fun H2 e2 => hb H2 (e.trans e2) _ fun H3 e3 => ⟨i, j, rfl, q H3 (e2.trans e3)⟩
theorem ev_isi {c : V} {t u : Value} {b : Bool} (ha : Ev ta σ H x) (hb : Ev tb σ H c) (k : ClsV c u) (ty : ∀ H1, Ex H H1 → TyX K H1 x t) (e : PySem.W.kitOne K t u = some b) : Ev (tCB (rIsi K) (tCons ta (tCons tb tNil))) σ H (.bl b) := fun H1 e1 Q q =>
  ha H1 e1 _ fun H2 e2 => hb H2 (e1.trans e2) _ fun H3 e3 => ⟨x, c, t, u, b, rfl, k, ty H3 ((e1.trans e2).trans e3), e, q H3 (e2.trans e3)⟩
theorem ev_lenStr {s : Str} (ha : Ev ta σ H (.str s)) (hs : s.length ≤ sizeLine) : Ev (tCB (fun xs H Q => ∃ z : Str, xs = [.str z] ∧ z.length ≤ sizeLine ∧ Q (.int z.length) H) (tCons ta tNil)) σ H (.int (s.length : Int)) := fun H1 e Q q =>
  ha H1 e _ fun H2 e2 => ⟨s, rfl, hs, q H2 e2⟩
theorem ev_bits {i : Int} (h : Ev te σ H (.int i)) : Ev (tBits te) σ H (.int (Builtin.Int.intBits i : Nat)) := fun H1 e Q q => h H1 e _ fun H2 e2 => ⟨i, rfl, q H2 e2⟩
theorem ev_fmtB {i : Int} (h : Ev te σ H (.int i)) (h0 : 0 ≤ i) (hz : (binT i.natAbs).length ≤ sizeLine) : Ev (tFmtB te) σ H (.str (binT i.natAbs)) := fun H1 e Q q => h H1 e _ fun H2 e2 => ⟨i, rfl, h0, hz, q H2 e2⟩
def rZfill : V → List V → Hp → VK → Prop := fun x xs H Q => ∃ (a : Str) (i : Int), x = .str a ∧ xs = [.int i] ∧ PadOk i = true ∧ Q (.str (Txt.zfill a i)) H
theorem ev_zfill {a : Str} {i : Int} (ha : Ev ta σ H (.str a)) (hb : Ev tb σ H (.int i)) (hp : PadOk i = true) : Ev (tBM K "str" rZfill ta (tCons tb tNil)) σ H (.str (Txt.zfill a i)) := fun H1 e Q q =>
  ha H1 e _ fun H2 e2 => ⟨rfl, hb H2 (e.trans e2) _ fun H3 e3 => ⟨a, i, rfl, rfl, hp, q H3 (e2.trans e3)⟩⟩
theorem ev_callN {n m : Nat} {sp : Sp} {gV : List V → List V → List V} {E : XK} {t tk : TA} {vs zs : List V} (h : EvA t σ H vs) (hk : EvA tk σ H zs) (h1 : vs.length = n) (h2 : zs.length = m) (hs : SpV sp (gV vs zs) H z) : Ev (tCallN n m sp gV E t tk) σ H z := fun H1 e Q q =>
  h H1 e _ fun H2 e2 => hk H2 (e.trans e2) _ fun H3 e3 => ⟨h1, h2, hs H3 ((e.trans e2).trans e3) Q (fun H4 e4 => q H4 ((e2.trans e3).trans e4)) E⟩
/-- two new lists one behind the other -/
theorem el_cat {xs ys : List V} (ha : EvL ta σ H xs) (hb : EvL tb σ H ys) (hz : xs.length + ys.length ≤ 100000) : EvL (tOp rCat ta tb) σ H (xs ++ ys) := fun H1 e Q q =>
  ha H1 e _ fun p H2 hp e2 h2 => hb H2 (e.trans e2) _ fun r H3 hr e3 h3 => ⟨p, r, xs, ys, rfl, rfl, e3 p _ h2, h3, sz_of hz, fun l hl => q l _ (fresh_back (e2.trans e3) hl) ((e2.trans e3).trans (Ex.new hl)) upd_same⟩
theorem el_catV {xs ys : List V} {b : Addr} (ha : EvL ta σ H xs) (hb : Ev tb σ H (.ref b)) (hy : H b = some (.lst ys)) (hz : xs.length + ys.length ≤ 100000) : EvL (tOp rCat ta tb) σ H (xs ++ ys) := fun H1 e Q q =>
  ha H1 e _ fun p H2 hp e2 h2 => hb H2 (e.trans e2) _ fun H3 e3 => ⟨p, b, xs, ys, rfl, rfl, e3 p _ h2, ((e.trans e2).trans e3) b _ hy, sz_of hz, fun l hl => q l _ (fresh_back (e2.trans e3) hl) ((e2.trans e3).trans (Ex.new hl)) upd_same⟩
end
end My

set_option Elab.async false
set_option linter.all false
set_option maxRecDepth 100000
set_option maxHeartbeats 4000000
namespace My
open PySem
/-! ### bits -/
def bitsL : Nat → Nat → List Nat
  | 0, _ => []
  | w + 1, n => bitsL w (n / 2) ++ [48 + n % 2]
theorem bitsL_len : ∀ (w n : Nat), (bitsL w n).length = w
  | 0, _ => rfl
  | w + 1, n => by simp [bitsL, bitsL_len w]
def dig (n : Nat) : List Nat := (Nat.toDigits 2 n).map Char.toNat
theorem dig_lt {n : Nat} (h : n < 2) : dig n = [48 + n] := by
  have h2 : n = 0 ∨ n = 1 := by omega
  rcases h2 with rfl | rfl <;> decide
theorem dig_ge {n : Nat} (h : 2 ≤ n) : dig n = dig (n / 2) ++ [48 + n % 2] := by
  unfold dig
  rw [Nat.toDigits_of_base_le (by decide) h, List.map_append]
  have h2 : n % 2 = 0 ∨ n % 2 = 1 := by omega
  rcases h2 with h2 | h2 <;> rw [h2] <;> rfl
theorem dig_mem : ∀ (k n : Nat), n ≤ k → ∀ c ∈ dig n, c = 48 ∨ c = 49
  | k, n, hk, c, hc => by
    by_cases h : n < 2
    · rw [dig_lt h] at hc
      simp at hc
      omega
    · rw [dig_ge (by omega)] at hc
      rcases List.mem_append.mp hc with hc | hc
      · match k with
        | 0 => omega
        | k + 1 => exact dig_mem k (n / 2) (by omega) c hc
      · simp at hc
        omega
theorem dig_pos (n : Nat) : 1 ≤ (dig n).length := by
  unfold dig
  rw [List.length_map]
  exact Nat.length_toDigits_pos
theorem dig_len : ∀ (w n : Nat), 1 ≤ w → n < 2 ^ w → (dig n).length ≤ w
  | 0, _, h, _ => by omega
  | w + 1, n, _, hn => by
    by_cases h : n < 2
    · rw [dig_lt h]; simp
    · rw [dig_ge (by omega), List.length_append]
      by_cases hw : w = 0
      · subst hw
        have : (2 : Nat) ^ (0 + 1) = 2 := by decide
        omega
      · have := dig_len w (n / 2) (by omega) (by rw [Nat.pow_succ] at hn; omega)
        simp only [List.length_cons, List.length_nil]
        omega
theorem pad_bits : ∀ (w n : Nat), 1 ≤ w → n < 2 ^ w → List.replicate (w - (dig n).length) 48 ++ dig n = bitsL w n
  | 0, _, h, _ => by omega
  | w + 1, n, _, hn => by
    by_cases h : n < 2
    · rw [dig_lt h]
      have e1 : n / 2 = 0 := by omega
      have e2 : n % 2 = n := by omega
      unfold bitsL
      rw [e1, e2]
      by_cases hw : w = 0
      · subst hw
        rfl
      · rw [← pad_bits w 0 (by omega) (Nat.two_pow_pos w), dig_lt (by omega : 0 < 2)]
        obtain ⟨v, rfl⟩ : ∃ v, w = v + 1 := ⟨w - 1, by omega⟩
        show List.replicate (v + 1 + 1 - 1) 48 ++ [48 + n] = List.replicate (v + 1 - 1) 48 ++ [48 + 0] ++ [48 + n]
        congr 1
        show List.replicate (v + 1) 48 = List.replicate v 48 ++ [48]
        exact List.replicate_succ'
    · rw [dig_ge (by omega)]
      have hw : 1 ≤ w := by
        by_cases hw : w = 0
        · subst hw
          have : (2 : Nat) ^ (0 + 1) = 2 := by decide
          omega
        · omega
      unfold bitsL
      rw [← pad_bits w (n / 2) hw (by rw [Nat.pow_succ] at hn; omega), ← List.append_assoc]
      congr 2
      rw [List.length_append]
      show List.replicate (w + 1 - ((dig (n / 2)).length + 1)) 48 = _
      congr 1
      omega
/-- a number in so many bits -/
def bitS (w : Nat) (n : Nat) : Str := ⟨(bitsL w n).toArray⟩
theorem zfill_bits {w n : Nat} (hw : 1 ≤ w) (hn : n < 2 ^ w) : Txt.zfill (binT n) (w : Int) = bitS w n := by
  have e : binT n = ⟨(dig n).toArray⟩ := rfl
  have hl : (binT n).length = (dig n).length := by rw [e]; simp [Str.length]
  have hd := dig_len w n hw hn
  have hp := pad_bits w n hw hn
  unfold Txt.zfill
  rw [hl]
  by_cases h : (w : Int) ≤ ((dig n).length : Int)
  · rw [if_pos h, e]
    have h2 : w - (dig n).length = 0 := by omega
    rw [h2] at hp
    unfold bitS
    rw [← hp]
    rfl
  · rw [if_neg h]
    have h3 : ((w : Int).toNat - (dig n).length) = w - (dig n).length := by simp
    rw [h3]
    have hm := dig_mem n n (Nat.le_refl _)
    have h1 := dig_pos n
    unfold bitS
    rw [← hp, e]
    generalize dig n = d at hm h1 ⊢
    match d, h1 with
    | c :: cs, _ =>
      unfold zfilled
      have hc := hm c List.mem_cons_self
      have e0 : (⟨(c :: cs).toArray⟩ : Str).cps[0]? = some c := rfl
      rw [e0]
      rcases hc with rfl | rfl
      · show Builtin.Str.padded _ _ 0 48 = _
        simp [Builtin.Str.padded]
      · show Builtin.Str.padded _ _ 0 48 = _
        simp [Builtin.Str.padded]
/-! ### order -/
theorem lex_app {α : Type} {r : α → α → Prop} : ∀ {a b c d : List α}, List.Lex r a b → a.length = b.length → List.Lex r (a ++ c) (b ++ d)
  | _, _, _, _, .nil, h => by simp at h
  | _, _, _, _, .rel h, _ => .rel h
  | _, _, _, _, .cons h, e => .cons (lex_app h (by simpa using e))
theorem lex_last {α : Type} {r : α → α → Prop} {x y : α} (h : r x y) : ∀ a : List α, List.Lex r (a ++ [x]) (a ++ [y])
  | [] => .rel h
  | _ :: a => .cons (lex_last h a)
theorem bits_lt : ∀ (w n m : Nat), n < m → m < 2 ^ w → bitsL w n < bitsL w m
  | 0, n, m, h, hm => by simp at hm; omega
  | w + 1, n, m, h, hm => by
    unfold bitsL
    by_cases e : n / 2 = m / 2
    · rw [e]
      exact lex_last (by omega) _
    · exact lex_app (bits_lt w (n / 2) (m / 2) (by omega) (by rw [Nat.pow_succ] at hm; omega)) (by rw [bitsL_len, bitsL_len])
/-! ### reading -/
def valL (l : List Nat) : Int := l.foldl (fun v c => v * 2 + if c = 49 then 1 else 0) 0
theorem valL_snoc (l : List Nat) (c : Nat) : valL (l ++ [c]) = valL l * 2 + if c = 49 then 1 else 0 := by
  unfold valL
  rw [List.foldl_append]
  rfl
theorem valL_bits : ∀ (w n : Nat), n < 2 ^ w → valL (bitsL w n) = n
  | 0, n, h => by
    have : n = 0 := by simpa using h
    subst this
    rfl
  | w + 1, n, h => by
    unfold bitsL
    rw [valL_snoc, valL_bits w (n / 2) (by rw [Nat.pow_succ] at h; omega)]
    split <;> omega
theorem bits_mem : ∀ (w n : Nat), ∀ c ∈ bitsL w n, c = 48 ∨ c = 49
  | 0, _, c, h => by simp [bitsL] at h
  | w + 1, n, c, h => by
    unfold bitsL at h
    rcases List.mem_append.mp h with h | h
    · exact bits_mem w _ c h
    · simp at h; omega
/-! ### widths -/
def wd (m : Int) : Nat := Builtin.Int.intBits (m - 1)
theorem wd_spec {m : Int} (h : 1 ≤ m) : m ≤ 2 ^ wd m ∧ ∀ j, j < wd m → (2 : Int) ^ j < m := by
  unfold wd Builtin.Int.intBits
  obtain ⟨n, hn⟩ : ∃ n : Nat, m = (n : Int) + 1 := ⟨(m - 1).toNat, by omega⟩
  subst hn
  have e : (n : Int) + 1 - 1 = n := by omega
  rw [e]
  by_cases hz : n = 0
  · subst hz
    refine ⟨?_, fun j hj => ?_⟩
    · show (0 : Int) + 1 ≤ 2 ^ 0
      decide
    · exact absurd hj (Nat.not_lt_zero _)
  · have hb : ((n : Int) == 0) = false := by simpa using hz
    rw [hb]
    simp only [Bool.false_eq_true, if_false, Int.natAbs_natCast]
    have h1 := Nat.lt_log2_self (n := n)
    have h2 := Nat.log2_self_le hz
    refine ⟨?_, fun j hj => ?_⟩
    · have : ((n + 1 : Nat) : Int) ≤ ((2 ^ (n.log2 + 1) : Nat) : Int) := Int.ofNat_le.mpr h1
      rw [Int.natCast_pow] at this
      simpa using this
    · have h3 : 2 ^ j ≤ 2 ^ n.log2 := Nat.pow_le_pow_right (by decide) (by omega)
      have : ((2 ^ j : Nat) : Int) < ((n + 1 : Nat) : Int) := Int.ofNat_lt.mpr (by omega)
      rw [Int.natCast_pow] at this
      simpa using this
theorem wd_uniq {m : Int} (h : 1 ≤ m) {i : Nat} (h1 : m ≤ 2 ^ i) (h2 : ∀ j, j < i → (2 : Int) ^ j < m) : i = wd m := by
  obtain ⟨a, b⟩ := wd_spec h
  by_cases c : i < wd m
  · have := b i c
    omega
  · by_cases d : wd m < i
    · have := h2 _ d
      omega
    · omega
theorem p2 (i : Nat) : ((2 : Int) ^ i) = ((2 ^ i : Nat) : Int) := by rw [Int.natCast_pow]; rfl
theorem wd_le {m : Int} (h : 1 ≤ m) {b : Nat} (hb : m ≤ 2 ^ b) : wd m ≤ b := by
  by_cases c : b < wd m
  · have := (wd_spec h).2 b c
    omega
  · omega
theorem nat_lt_wd {n m : Int} (h0 : 0 ≤ n) (h : n < m) : n.natAbs < 2 ^ wd m := by
  have a := (wd_spec (m := m) (by omega)).1
  rw [p2] at a
  omega
theorem wd_one {m : Int} (h : 1 ≤ m) (h1 : m ≠ 1) : 1 ≤ wd m := by
  by_cases c : wd m = 0
  · have a := (wd_spec h).1
    rw [c] at a
    have : (2 : Int) ^ 0 = 1 := by decide
    omega
  · omega
theorem wd_1 : wd 1 = 0 := rfl
end My

set_option Elab.async false
set_option linter.all false
set_option maxRecDepth 100000
set_option maxHeartbeats 4000000
namespace My
open PySem PySem.Spec PyProof.Rows L2 Evl
def top (i : Nat) : Stmt := PySem.Challenge.pw_unpressed_k15_numbers_in_bits.main.body.getD i (.Pass ⟨0, 0, 0, 0⟩)
structure TT (mg : Str → Option Value) : Prop where
  len : mg "len" = none
  int_ : mg "int" = none
  bool_ : mg "bool" = none
  str_ : mg "str" = none
  list_ : mg "list" = none
  range : mg "range" = none
  max : mg "max" = none
  isinstance : mg "isinstance" = none
  sorted : mg "sorted" = none
/-- a loop over a text's signs -/
theorem for_str {x : Str} {g : TG} {tb : TS} {D : Ends} {σ : L2.St} {H : Hp} (Pv : Nat → L2.St → Hp → Prop) (h0 : Pv 0 σ H)
    (hs : ∀ i c σ H, x.cps[i]? = some c → Pv i σ H → g (.str ⟨#[c]⟩) σ H fun σ2 H2 => tb { D with nx := Pv (i + 1), ct := Pv (i + 1), bk := D.nx } σ2 H2) (hd : ∀ σ H, Pv x.cps.size σ H → D.nx σ H) :
    ∃ W : Nat → Nat → L2.St → Hp → Prop, (∃ m, W 0 m σ H) ∧ ∀ i m σ H, W i m σ H →
      ((Its x).stop i H ∧ D.nx σ H) ∨ ((Its x).go i H ∧ ∃ N : L2.St → Hp → Prop, (∀ σ' H', N σ' H' → ∃ m', m' < m ∧ W (i + 1) m' σ' H') ∧ ∀ y H', (Its x).yld i H y H' → g y σ H' fun σ2 H2 => tb { D with nx := N, ct := N, bk := D.nx } σ2 H2) := by
  refine ⟨fun i m σ H => m = x.cps.size - i ∧ i ≤ x.cps.size ∧ Pv i σ H, ⟨x.cps.size, by simp, Nat.zero_le _, h0⟩, ?_⟩
  rintro i m σ H ⟨rfl, hi, p⟩
  by_cases hlt : i < x.cps.size
  · refine .inr ⟨hlt, Pv (i + 1), fun σ' H' p' => ⟨x.cps.size - (i + 1), by omega, rfl, hlt, p'⟩, fun y H' z => ?_⟩
    obtain ⟨e, c, hc, rfl⟩ := z
    subst e
    exact hs i c σ _ hc p
  · have e : i = x.cps.size := by omega
    subst e
    exact .inl ⟨Nat.le_refl _, hd σ H p⟩
theorem q_forS {x : Str} {tl : TE} {g : TG} {D : Ends} {σ : L2.St} {H : Hp} {tu tz : TS} (h : Ev tl σ H (.str x)) (Pv : Nat → L2.St → Hp → Prop) (h0 : ∀ H1, Ex H H1 → Pv 0 σ H1)
    (hs : ∀ i c σ' H', x.cps[i]? = some c → Pv i σ' H' → g (.str ⟨#[c]⟩) σ' H' fun σ2 H2 => tu { D with nx := Pv (i + 1), ct := Pv (i + 1), bk := tz D } σ2 H2) (hd : ∀ σ' H', Pv x.cps.size σ' H' → tz D σ' H') : tSeq (tFor (iStr tl) g tu) tz D σ H :=
  h H (Ex.refl H) _ fun H1 e => ⟨x, rfl, for_str (D := { D with nx := tz D }) Pv (h0 H1 e) hs hd⟩
section
variable {P : Program} {w : World} {K : PySem.W.Frag} {mg : Str → Option Value} {base : Heap}
/-! ### width -/
abbrev s_width : Stmt := top 1
abbrev N_width : List Str := ["options"]
theorem sc_width : FnScope N_width ["options"] (defScope s_width) := ⟨rfl, rfl, rfl, by decide +kernel, rfl, by decide +kernel, by decide +kernel⟩
def spWidth : Sp := fun vs H Q _ => ∃ m : Int, vs = [.int m] ∧ RetV (.int (wd m : Nat)) H Q
theorem ok_width (F : At K mg "width" s_width) : Dn P w K mg base 1 "width" s_width ["options"] spWidth := by
  refine dn_ok F sc_width (fun _ _ _ _ _ _ us hl => match us, hl with | [_], _ => rfl) (fun vs H Q E h => ?_) (fun f cdv A outer s H vs Q E hr h => ?_)
  · obtain ⟨m, rfl, _⟩ := h; rfl
  · obtain ⟨m, rfl, q⟩ := h
    refine ⟨_, (pss_one (ps_ret (pe_bits (pe_op op_sub (pv 0) pe_int)))), ?_⟩
    exact s_ret (ev_bits (ev_op (ev_var rfl) ev_c rv_I0)) fun H1 e => q H1 e
theorem sv_width {m : Int} {H : Hp} : SpV spWidth [.int m] H (.int (wd m : Nat)) := fun H1 _ Q q _ => ⟨m, rfl, q⟩
theorem kd_width (D : Dn P w K mg base 1 "width" s_width ["options"] spWidth) : Kd P w K mg base 1 "width" 0 ["options"] (fun _ zs => zs) spWidth :=
  kd_of D 0 ["options"] (fun _ ws => ws) (fun _ zs => zs) (fun _ _ _ _ _ _ us ws h1 h2 => match us, ws, h1, h2 with | [], [_], _, _ => rfl) (fun _ r => r)
/-! ### number_bits -/
abbrev s_number_bits : Stmt := top 2
abbrev N_number_bits : List Str := ["number", "options", "digits"]
theorem sc_number_bits : FnScope N_number_bits ["number", "options"] (defScope s_number_bits) := ⟨rfl, rfl, rfl, by decide +kernel, rfl, by decide +kernel, by decide +kernel⟩
def big : Int := 10 ^ 100
theorem big_lt : big < 2 ^ 333 := by decide +kernel
def spNB : Sp := fun vs H Q _ => ∃ n m : Int, vs = [.int n, .int m] ∧ 0 ≤ n ∧ n < m ∧ m ≤ big ∧ RetV (.str (bitS (wd m) n.natAbs)) H Q
theorem wd_big {m : Int} (h : 1 ≤ m) (hb : m ≤ big) : wd m ≤ 333 := wd_le h (by have := big_lt; omega)
theorem pad_small {k : Nat} (h : k ≤ 333) : PadOk ((k : Nat) : Int) = true := by
  have h2 : ∀ k : Nat, k < 334 → PadOk ((k : Nat) : Int) = true := by decide +kernel
  exact h2 k (by omega)
theorem binT_len {n w : Nat} (hw : 1 ≤ w) (hn : n < 2 ^ w) (h : w ≤ 100000) : (binT n).length ≤ sizeLine := by
  have e : (binT n).length = (dig n).length := by
    have e : binT n = ⟨(dig n).toArray⟩ := rfl
    rw [e]; simp [Str.length]
  rw [e]
  exact Evl.sz_of (Nat.le_trans (dig_len w n hw hn) h)
theorem ok_number_bits (F : At K mg "number_bits" s_number_bits) (D_width : Dn P w K mg base 1 "width" s_width ["options"] spWidth) : Dn P w K mg base 2 "number_bits" s_number_bits ["number", "options"] spNB := by
  refine dn_ok F sc_number_bits (fun _ _ _ _ _ _ us hl => match us, hl with | [_, _], _ => rfl) (fun vs H Q E h => ?_) (fun f cdv A outer s H vs Q E hr h => ?_)
  · obtain ⟨n, m, rfl, _⟩ := h; rfl
  · obtain ⟨n, m, rfl, h0, h1, h2, q⟩ := h
    refine ⟨_, (pss_cons (ps_if (pt_cmpR op_eq (pv 1) pe_int (nomark _)) (pss_one (ps_ret pe_str)) pss_nil)
      (pss_cons (ps_set (i := 2) sc_number_bits.nd rfl (Or.inl rfl) (pe_joined1 (pe_fmtB (pv 0))))
      (pss_one (ps_ret (pe_bm PySem.F.plainAttrs_str PySem.F.slot_str_zfill PySem.F.type_str_zfill mt_zfill (pv 2) (pa_cons (pe_dn D_width hr (by decide) rfl (pa_cons (pv 1) pa_nil)) pa_nil)))))), ?_⟩
    refine q_when (et_test (ev_op (ev_var rfl) ev_c (rv_eq rfl))) (fun hb H1 e1 => ?_) (fun hb H1 e1 => ?_)
    · have e : m = 1 := by
        have := of_decide_eq_true hb
        injection this
      subst e
      exact s_ret ev_c fun H2 e2 => q H2 (e1.trans e2)
    · have e : m ≠ 1 := by
        have := of_decide_eq_false hb
        intro z
        exact this (by rw [z])
      have hw : 1 ≤ wd m := wd_one (by omega) e
      have hn := nat_lt_wd h0 h1
      refine q_asg (ev_fmtB (ev_var rfl) h0 (binT_len hw hn (by have := wd_big (m := m) (by omega) h2; omega))) fun H2 e2 => ?_
      refine s_ret (v := .str (bitS (wd m) n.natAbs)) ?_ fun H3 e3 => q H3 ((e1.trans e2).trans e3)
      rw [← zfill_bits hw hn]
      exact ev_zfill (ev_var rfl) (ev_call (ea_cons (ev_var rfl) ea_nil) sv_width) (pad_small (wd_big (by omega) h2))
theorem sv_nb {n m : Int} {H : Hp} (h0 : 0 ≤ n) (h1 : n < m) (h2 : m ≤ big) : SpV spNB [.int n, .int m] H (.str (bitS (wd m) n.natAbs)) := fun H1 _ Q q _ => ⟨n, m, rfl, h0, h1, h2, q⟩
theorem kd_nb (D : Dn P w K mg base 2 "number_bits" s_number_bits ["number", "options"] spNB) : Kd P w K mg base 2 "number_bits" 0 ["options", "number"] (fun _ zs => zs.reverse) spNB :=
  kd_of D 0 ["options", "number"] (fun _ ws => ws.reverse) (fun _ zs => zs.reverse) (fun _ _ _ _ _ _ us ws h1 h2 => match us, ws, h1, h2 with | [], [_, _], _, _ => rfl) (fun _ r => by
    have : ∀ {zs : List V} {ws : List Value}, Vals zs ws → Vals zs.reverse ws.reverse := by
      intro zs ws r
      induction r with
      | nil => exact .nil
      | cons a r ih => rw [List.reverse_cons, List.reverse_cons]; exact ih.append (.cons a .nil)
    exact this r)
/-! ### _law_whole -/
abbrev s_law_whole : Stmt := top 4
abbrev N_law_whole : List Str := ["value"]
theorem sc_law_whole : FnScope N_law_whole ["value"] (defScope s_law_whole) := ⟨rfl, rfl, rfl, by decide +kernel, rfl, by decide +kernel, by decide +kernel⟩
def spWhole : Sp := fun vs H Q _ => ∃ m : Int, vs = [.int m] ∧ RetV (.bl true) H Q
theorem kit_int_int {K : PySem.W.Frag} : PySem.W.kitOne K (.type "int") (.type "int") = some true := by rfl
theorem kit_int_bool {K : PySem.W.Frag} : PySem.W.kitOne K (.type "int") (.type "bool") = some false := by rfl
theorem ok_law_whole (T : TT mg) (F : At K mg "_law_whole" s_law_whole) : Dn P w K mg base 1 "_law_whole" s_law_whole ["value"] spWhole := by
  refine dn_ok F sc_law_whole (fun _ _ _ _ _ _ us hl => match us, hl with | [_], _ => rfl) (fun vs H Q E h => ?_) (fun f cdv A outer s H vs Q E hr h => ?_)
  · obtain ⟨m, rfl, _⟩ := h; rfl
  · obtain ⟨m, rfl, q⟩ := h
    refine ⟨_, (pss_one (ps_ret (pe_and (pe_callB call_isi (by rfl) T.isinstance (by decide +kernel) (pa_cons (pv 0) (pa_cons (pe_tyn "int" rfl T.int_ (by decide +kernel)) pa_nil))) (pe_one (pe_not (pe_callB call_isi (by rfl) T.isinstance (by decide +kernel) (pa_cons (pv 0) (pa_cons (pe_tyn "bool" rfl T.bool_ (by decide +kernel)) pa_nil)))))))), ?_⟩
    exact s_ret (v := .bl (true && !false)) (ev_andV (ev_isi (ev_var rfl) ev_c (ClsV.ty "int") (fun _ _ => .base (.int m)) kit_int_int) fun _ => ev_notV (ev_isi (ev_var rfl) ev_c (ClsV.ty "bool") (fun _ _ => .base (.int m)) kit_int_bool)) fun H1 e => q H1 e
theorem sv_whole {m : Int} {H : Hp} : SpV spWhole [.int m] H (.bl true) := fun H1 _ Q q _ => ⟨m, rfl, q⟩
end
end My

set_option Elab.async false
set_option linter.all false
set_option maxRecDepth 100000
set_option maxHeartbeats 4000000
namespace My
open PySem PySem.Spec PyProof.Rows L2 Evl
/-! ### lists of ints in the heap -/
theorem get_map {ns : List Int} {i : Nat} {x : V} (h : (ns.map V.int)[i]? = some x) : ∃ z, ns[i]? = some z ∧ x = .int z := by
  rw [List.getElem?_map] at h
  cases e : ns[i]? with
  | none => rw [e] at h; cases h
  | some z => rw [e] at h; exact ⟨z, rfl, (Option.some.inj h).symm⟩
theorem drop_get {α : Type} {l : List α} {i : Nat} {x : α} (h : l[i]? = some x) : l.drop i = x :: l.drop (i + 1) := by
  obtain ⟨hi, e⟩ := List.getElem?_eq_some_iff.mp h
  rw [List.drop_eq_getElem_cons hi, e]
theorem at_map {ns : List Int} {i : Int} {z : Int} (h0 : 0 ≤ i) (h : ns[i.toNat]? = some z) : atI (ns.map V.int) i = some (.int z) := by
  have hi : i.toNat < ns.length := (List.getElem?_eq_some_iff.mp h).1
  have e : ixN (ns.map V.int).length i = some i.toNat := by
    unfold ixN
    rw [List.length_map, if_pos h0, if_pos (by omega)]
  unfold atI
  rw [e]
  show (ns.map V.int)[i.toNat]? = _
  rw [List.getElem?_map, h]
  rfl
/-! ### a cell -/
def seedF (ns : List Int) : Int := ns.foldl (fun s c => (s * 31 + c % 1000003) % 1000003) 17
def cellF (ns : List Int) (k : Int) : Int := if k < (ns.length : Int) then ns.getD k.toNat 0 else ((seedF ns + 7) * (k + 3) * 69621) % 2147483647
/-! ### digits -/
def digA : Int → List Int → List Int
  | _, [] => []
  | r, s :: ss => r % s :: digA (r / s) ss
def digB : Int → Int → List Int → List Int
  | _, _, [] => []
  | seed, k, s :: ss =>
    let seed' := (seed * 48271 + 974711 * k + 12345) % 2147483647
    let twice := (seed' * (seed' / 65537 + 3)) % 2147483629
    (twice / 19 % s) :: digB seed' (k + 1) ss
def digitsF (c : Int) (ss : List Int) : List Int := if 1000000000000000000 ≤ c then digA (c - 1000000000000000000) ss else digB (c % 2147483629) 0 ss
theorem digA_len : ∀ (r : Int) (ss : List Int), (digA r ss).length = ss.length
  | _, [] => rfl
  | r, s :: ss => by simp [digA, digA_len]
theorem digB_len : ∀ (r k : Int) (ss : List Int), (digB r k ss).length = ss.length
  | _, _, [] => rfl
  | r, k, s :: ss => by simp [digB, digB_len]
theorem digits_len (c : Int) (ss : List Int) : (digitsF c ss).length = ss.length := by
  unfold digitsF; split
  · exact digA_len _ _
  · exact digB_len _ _ _
/-- each digit is from 0 to its size, without it -/
def Within : List Int → List Int → Prop
  | [], [] => True
  | d :: ds, s :: ss => (0 ≤ d ∧ d < s) ∧ Within ds ss
  | _, _ => False
theorem digA_in : ∀ (r : Int) (ss : List Int), (∀ s ∈ ss, 0 < s) → Within (digA r ss) ss
  | _, [], _ => trivial
  | r, s :: ss, h => ⟨⟨Int.emod_nonneg _ (by have := h s List.mem_cons_self; omega), Int.emod_lt_of_pos _ (h s List.mem_cons_self)⟩, digA_in _ ss fun z hz => h z (List.mem_cons_of_mem _ hz)⟩
theorem digB_in : ∀ (r k : Int) (ss : List Int), (∀ s ∈ ss, 0 < s) → Within (digB r k ss) ss
  | _, _, [], _ => trivial
  | r, k, s :: ss, h => ⟨⟨Int.emod_nonneg _ (by have := h s List.mem_cons_self; omega), Int.emod_lt_of_pos _ (h s List.mem_cons_self)⟩, digB_in _ _ ss fun z hz => h z (List.mem_cons_of_mem _ hz)⟩
theorem digits_in (c : Int) (ss : List Int) (h : ∀ s ∈ ss, 0 < s) : Within (digitsF c ss) ss := by
  unfold digitsF; split
  · exact digA_in _ _ h
  · exact digB_in _ _ _ h
section
variable {P : Program} {w : World} {K : PySem.W.Frag} {mg : Str → Option Value} {base : Heap}
/-! ### _law_cell -/
abbrev s_law_cell : Stmt := top 5
abbrev N_law_cell : List Str := ["script", "k", "seed", "cell"]
theorem sc_law_cell : FnScope N_law_cell ["script", "k"] (defScope s_law_cell) := ⟨rfl, rfl, rfl, by decide +kernel, rfl, by decide +kernel, by decide +kernel⟩
def spCellF (K : PySem.W.Frag) : Sp := fun vs H Q _ => ∃ (a : Addr) (ns : List Int) (k : Int), vs = [.ref a, .int k] ∧ SqL K H a (ns.map V.int) ∧ 0 ≤ k ∧ k ≤ 1000000 ∧ RetV (.int (cellF ns k)) H Q
theorem ok_law_cell (T : TT mg) (F : At K mg "_law_cell" s_law_cell) : Dn P w K mg base 1 "_law_cell" s_law_cell ["script", "k"] (spCellF K) := by
  refine dn_ok F sc_law_cell (fun _ _ _ _ _ _ us hl => match us, hl with | [_, _], _ => rfl) (fun vs H Q E h => ?_) (fun f cdv A outer s H vs Q E hr h => ?_)
  · obtain ⟨a, ns, k, rfl, _⟩ := h; rfl
  · obtain ⟨a, ns, k, rfl, hS, hk, hk2, q⟩ := h
    refine ⟨_, (pss_cons (ps_if (pt_cmpR op_lt (pv 1) (pe_callB call_len_seq (by rfl) T.len boot_len (pa_cons (pv 0) pa_nil)) (nomark _)) (pss_one (ps_ret (pe_ix ix_list (pv 0) (pv 1) (fun _ _ => rfl)))) pss_nil)
      (pss_cons (ps_set (i := 2) sc_law_cell.nd rfl (Or.inl rfl) pe_int)
      (pss_cons (ps_for PassesOwn.never rfl (pi_list (pv 0)) (pg_name (i := 3) sc_law_cell.nd rfl (Or.inl rfl))
        (pss_one (ps_set (i := 2) sc_law_cell.nd rfl (Or.inl rfl) (pe_op op_mod (pe_callTy call_int1 (by rfl) T.int_ (by decide +kernel) (pa_cons (pe_op op_add (pe_op op_mul (pv 2) pe_int) (pe_op op_mod (pe_callTy call_int1 (by rfl) T.int_ (by decide +kernel) (pa_cons (pv 3) pa_nil)) pe_int)) pa_nil)) pe_int))))
      (pss_one (ps_ret (pe_op op_mod (pe_callTy call_int1 (by rfl) T.int_ (by decide +kernel) (pa_cons (pe_op op_mul (pe_op op_mul (pe_op op_add (pv 2) pe_int) (pe_op op_add (pv 1) pe_int)) pe_int) pa_nil)) pe_int)))))), ?_⟩
    refine q_when (et_test (ev_op (ev_var rfl) (ev_len (ev_var rfl) hS) rv_I0)) (fun hb H1 e1 => ?_) (fun hb H1 e1 => ?_)
    · have hlt : k < (ns.length : Int) := by
        have := of_decide_eq_true hb
        rw [List.length_map] at this
        exact this
      have hv : cellF ns k = ns.getD k.toNat 0 := if_pos hlt
      rw [hv] at q
      have hg : ns[k.toNat]? = some (ns.getD k.toNat 0) := by
        rw [List.getD_eq_getElem?_getD, List.getElem?_eq_getElem (by omega)]; rfl
      exact s_ret (ev_op (ev_var rfl) (ev_var rfl) (rv_ixL (ex_l e1 hS) (at_map hk hg))) fun H2 e2 => q H2 (e1.trans e2)
    · have hge : ¬ k < (ns.length : Int) := by
        have := of_decide_eq_false hb
        rw [List.length_map] at this
        exact this
      have hv : cellF ns k = ((seedF ns + 7) * (k + 3) * 69621) % 2147483647 := if_neg hge
      rw [hv] at q
      refine q_asg ev_c fun H2 e2 => ?_
      refine q_forLn (ev_var rfl) (ex_l (e1.trans e2) hS) (fun i σ' H' => ∃ (sd : Int) (v : Option V), σ' = [some (.ref a), some (.int k), some (.int sd), v] ∧ Ex H H' ∧ 0 ≤ sd ∧ sd < 1000003 ∧ (ns.drop i).foldl (fun s c => (s * 31 + c % 1000003) % 1000003) sd = seedF ns)
        (fun H3 e3 => ⟨17, none, rfl, (e1.trans e2).trans e3, by decide, by decide, rfl⟩) (fun i σ' H' _ ⟨_, _, _, e, _⟩ => ex_l e hS) ?_ ?_
      · rintro i x σ' H' hx ⟨sd, v, rfl, e, h0, h1, hf⟩
        obtain ⟨z, hz, rfl⟩ := get_map hx
        rw [drop_get hz, List.foldl_cons] at hf
        refine s_asg (ev_op (ev_int (ev_op (ev_op (ev_var rfl) ev_c (rv_I (by unfold CMul; omega))) (ev_op (ev_int (ev_var rfl)) ev_c (rv_I (by decide))) rv_I0)) ev_c (rv_I (by decide))) fun H4 e4 => ?_
        exact ⟨_, _, rfl, e.trans e4, Int.emod_nonneg _ (by decide), Int.emod_lt_of_pos _ (by decide), hf⟩
      · rintro σ' H' ⟨sd, v, rfl, e, h0, h1, hf⟩
        rw [List.length_map, List.drop_length] at hf
        have hsd : sd = seedF ns := hf
        subst hsd
        exact s_ret (ev_op (ev_int (ev_op (ev_op (ev_op (ev_var rfl) ev_c rv_I0) (ev_op (ev_var rfl) ev_c rv_I0) (rv_I (by unfold CMul; omega))) ev_c (rv_I (by unfold CMul; omega)))) ev_c (rv_I (by decide))) fun H4 e4 => q H4 (e.trans e4)
theorem sv_cell {a : Addr} {ns : List Int} {k : Int} {H : Hp} (hS : SqL K H a (ns.map V.int)) (h0 : 0 ≤ k) (h1 : k ≤ 1000000) : SpV (spCellF K) [.ref a, .int k] H (.int (cellF ns k)) := fun H1 e Q q _ => ⟨a, ns, k, rfl, ex_l e hS, h0, h1, q⟩
/-! ### _law_digits -/
abbrev s_law_digits : Stmt := top 6
abbrev N_law_digits : List Str := ["cell", "sizes", "row", "rest", "seed", "k", "size", "twice"]
theorem sc_law_digits : FnScope N_law_digits ["cell", "sizes"] (defScope s_law_digits) := ⟨rfl, rfl, rfl, by decide +kernel, rfl, by decide +kernel, by decide +kernel⟩
def OkSizes (ss : List Int) : Prop := ss.length ≤ 1000 ∧ ∀ s ∈ ss, 0 < s ∧ s < 2 ^ 64
def spDigits (K : PySem.W.Frag) : Sp := fun vs H Q _ => ∃ (c : Int) (b : Addr) (ss : List Int), vs = [.int c, .ref b] ∧ SqL K H b (ss.map V.int) ∧ OkSizes ss ∧ RetL ((digitsF c ss).map V.int) H Q
theorem divw {i j : Int} (h0 : 0 < j) (h : j < 2 ^ 64) : CDivW i j := wide_div (b := 64) h0 (by omega) (by decide) (by decide)
theorem ok_law_digits (T : TT mg) (F : At K mg "_law_digits" s_law_digits) : Dn P w K mg base 1 "_law_digits" s_law_digits ["cell", "sizes"] (spDigits K) := by
  refine dn_ok F sc_law_digits (fun _ _ _ _ _ _ us hl => match us, hl with | [_, _], _ => rfl) (fun vs H Q E h => ?_) (fun f cdv A outer s H vs Q E hr h => ?_)
  · obtain ⟨c, b, ss, rfl, _⟩ := h; rfl
  · obtain ⟨c, b, ss, rfl, hS, ⟨hlen, hss⟩, q⟩ := h
    refine ⟨_, (pss_cons (ps_set (i := 2) sc_law_digits.nd rfl (Or.inl rfl) (pe_lst pa_nil))
      (pss_cons (ps_set (i := 3) sc_law_digits.nd rfl (Or.inl rfl) (pe_callTy call_int1 (by rfl) T.int_ (by decide +kernel) (pa_cons (pv 0) pa_nil)))
      (pss_cons (ps_if (pt_cmpR op_ge (pv 3) (pe_op op_pow pe_int pe_int) (nomark _)) (pss_cons (ps_set (i := 3) sc_law_digits.nd rfl (Or.inl rfl) (pe_op op_sub (pv 3) (pe_op op_pow pe_int pe_int)))
        (pss_cons (ps_for PassesOwn.never rfl (pi_list (pv 1)) (pg_name (i := 6) sc_law_digits.nd rfl (Or.inl rfl))
          (pss_cons (ps_expr (pe_bm PySem.F.plainAttrs_list PySem.F.slot_list_append PySem.F.type_list_append mt_append (pv 2) (pa_cons (pe_op op_mod (pe_callTy call_int1 (by rfl) T.int_ (by decide +kernel) (pa_cons (pv 3) pa_nil)) (pv 6)) pa_nil)))
            (pss_one (ps_set (i := 3) sc_law_digits.nd rfl (Or.inl rfl) (pe_op op_fdivW (pe_callTy call_int1 (by rfl) T.int_ (by decide +kernel) (pa_cons (pv 3) pa_nil)) (pv 6))))))
        (pss_one (ps_ret (pv 2))))) pss_nil)
      (pss_cons (ps_set (i := 4) sc_law_digits.nd rfl (Or.inl rfl) (pe_op op_mod (pe_callTy call_int1 (by rfl) T.int_ (by decide +kernel) (pa_cons (pv 3) pa_nil)) pe_int))
      (pss_cons (ps_for PassesOwn.never rfl (pi_range1 (by rfl) T.range (pa_cons (pe_callB call_len_seq (by rfl) T.len boot_len (pa_cons (pv 1) pa_nil)) pa_nil)) (pg_name (i := 5) sc_law_digits.nd rfl (Or.inl rfl))
        (pss_cons (ps_set (i := 4) sc_law_digits.nd rfl (Or.inl rfl) (pe_op op_mod (pe_callTy call_int1 (by rfl) T.int_ (by decide +kernel) (pa_cons (pe_op op_add (pe_op op_add (pe_op op_mul (pv 4) pe_int) (pe_op op_mul pe_int (pv 5))) pe_int) pa_nil)) pe_int))
          (pss_cons (ps_set (i := 7) sc_law_digits.nd rfl (Or.inl rfl) (pe_op op_mod (pe_callTy call_int1 (by rfl) T.int_ (by decide +kernel) (pa_cons (pe_op op_mul (pv 4) (pe_op op_add (pe_op op_fdiv (pv 4) pe_int) pe_int)) pa_nil)) pe_int))
          (pss_one (ps_expr (pe_bm PySem.F.plainAttrs_list PySem.F.slot_list_append PySem.F.type_list_append mt_append (pv 2) (pa_cons (pe_op op_mod (pe_op op_fdiv (pv 7) pe_int) (pe_ix ix_list (pv 1) (pv 5) (fun _ _ => rfl))) pa_nil)))))))
      (pss_one (ps_ret (pv 2)))))))), ?_⟩
    have e18 : (10 : Int) ^ (Int.toNat 18) = 1000000000000000000 := by decide
    have c18 : CPow 10 18 := by unfold CPow; decide
    refine q_asgL (el_lst ea_nil (by decide)) fun l H1 nl e1 h1 => ?_
    refine q_asg (ev_int (ev_var rfl)) fun H2 e2 => ?_
    refine q_when (et_test (ev_op (ev_var rfl) (ev_op ev_c ev_c (rv_I c18)) rv_I0)) (fun hb H3 e3 => ?_) (fun hb H3 e3 => ?_)
    · have hge : 1000000000000000000 ≤ c := by
        have := of_decide_eq_true hb
        rw [e18] at this
        exact this
      have hv : digitsF c ss = digA (c - 1000000000000000000) ss := if_pos hge
      rw [hv] at q
      refine q_asg (ev_op (ev_var rfl) (ev_op ev_c ev_c (rv_I c18)) rv_I0) fun H4 e4 => ?_
      have e14 : Ex H H4 := ((e1.trans e2).trans e3).trans e4
      refine q_forLn (ev_var rfl) (ex_l e14 hS) (fun i σ' H' => ∃ (r : Int) (done : List Int) (v : Option V), σ' = [some (.int c), some (.ref b), some (.ref l), some (.int r), none, none, v, none] ∧ Ex H H' ∧ H' l = some (.lst (done.map V.int)) ∧ done.length = i ∧ done ++ digA r (ss.drop i) = digA (c - 1000000000000000000) ss)
        (fun H5 e5 => ⟨_, [], none, rfl, e14.trans e5, e5 l _ (e4 l _ (e3 l _ (e2 l _ h1))), rfl, by rw [e18]; rfl⟩) (fun i σ' H' _ ⟨_, _, _, _, e, _⟩ => ex_l e hS) ?_ ?_
      · rintro i x σ' H' hx ⟨r, done, v, rfl, e, hl, hd, hf⟩
        obtain ⟨z, hz, rfl⟩ := get_map hx
        have hi := (List.getElem?_eq_some_iff.mp hz).1
        obtain ⟨z0, z1⟩ := hss z (List.mem_of_getElem? hz)
        rw [drop_get hz] at hf
        refine q_app hl (ev_var rfl) (ev_op (ev_int (ev_var rfl)) (ev_var rfl) (rv_I z0)) (by rw [List.length_map]; omega) fun H5 e5 => ?_
        refine s_asg (ev_op (ev_int (ev_var rfl)) (ev_var rfl) (rv_I (divw z0 z1))) fun H6 e6 => ?_
        refine ⟨r / z, done ++ [r % z], _, rfl, (Ex.mut (e.trans e5) nl).trans e6, ?_, by rw [List.length_append]; simp [hd], ?_⟩
        · rw [List.map_append]
          exact e6 l _ upd_same
        · rw [List.append_assoc]
          exact hf
      · rintro σ' H' ⟨r, done, v, rfl, e, hl, hd, hf⟩
        rw [List.length_map, List.drop_length] at hf
        have hf2 : done = digA (c - 1000000000000000000) ss := by rw [← hf]; simp [digA]
        subst hf2
        exact s_ret (ev_var rfl) fun H5 e5 => q l H5 nl (e.trans e5) (e5 l _ hl)
    · have hlt : ¬ 1000000000000000000 ≤ c := by
        have := of_decide_eq_false hb
        rw [e18] at this
        exact this
      have hv : digitsF c ss = digB (c % 2147483629) 0 ss := if_neg hlt
      rw [hv] at q
      refine q_asg (ev_op (ev_int (ev_var rfl)) ev_c (rv_I (by decide))) fun H4 e4 => ?_
      have e14 : Ex H H4 := ((e1.trans e2).trans e3).trans e4
      refine q_forR1 (ea_cons (ev_len (ev_var rfl) (ex_l e14 hS)) ea_nil) ⟨by omega, by rw [List.length_map]; omega⟩ (fun i σ' H' => ∃ (sd : Int) (done : List Int) (v u : Option V), σ' = [some (.int c), some (.ref b), some (.ref l), some (.int c), some (.int sd), v, none, u] ∧ Ex H H' ∧ H' l = some (.lst (done.map V.int)) ∧ done.length = i ∧ 0 ≤ sd ∧ sd < 2147483647 ∧ done ++ digB sd i (ss.drop i) = digB (c % 2147483629) 0 ss)
        (fun H5 e5 => ⟨_, [], none, none, rfl, e14.trans e5, e5 l _ (e4 l _ (e3 l _ (e2 l _ h1))), rfl, Int.emod_nonneg _ (by decide), Int.lt_trans (Int.emod_lt_of_pos _ (by decide)) (by decide), rfl⟩) ?_ ?_
      · rintro i σ' H' hi ⟨sd, done, v, u, rfl, e, hl, hd, h0, h1', hf⟩
        rw [List.length_map] at hi
        obtain ⟨z, hz⟩ : ∃ z, ss[i]? = some z := ⟨_, List.getElem?_eq_getElem (by omega)⟩
        obtain ⟨z0, z1⟩ := hss z (List.mem_of_getElem? hz)
        rw [drop_get hz] at hf
        have hm : 0 ≤ (sd * 48271 + 974711 * (i : Int) + 12345) % 2147483647 := Int.emod_nonneg _ (by decide)
        have hm2 : (sd * 48271 + 974711 * (i : Int) + 12345) % 2147483647 < 2147483647 := Int.emod_lt_of_pos _ (by decide)
        refine q_asg (ev_op (ev_int (ev_op (ev_op (ev_op (ev_var rfl) ev_c (rv_I (by unfold CMul; omega))) (ev_op ev_c (ev_var rfl) (rv_I (by unfold CMul; omega))) rv_I0) ev_c rv_I0)) ev_c (rv_I (by decide))) fun H5 e5 => ?_
        refine q_asg (ev_op (ev_int (ev_op (ev_var rfl) (ev_op (ev_op (ev_var rfl) ev_c (rv_I (by unfold CDiv; decide))) ev_c rv_I0) (rv_I (by unfold CMul; omega)))) ev_c (rv_I (by decide))) fun H6 e6 => ?_
        have e16 : Ex H H6 := (e.trans e5).trans e6
        refine s_app (e6 l _ (e5 l _ hl)) (ev_var rfl) (ev_op (ev_op (ev_var rfl) ev_c (rv_I (by unfold CDiv; decide))) (ev_op (ev_var rfl) (ev_var rfl) (rv_ixL (ex_l e16 hS) (at_map (by omega) (by simpa using hz)))) (rv_I z0)) (by rw [List.length_map]; omega) fun H7 e7 => ?_
        refine ⟨_, done ++ [(sd * 48271 + 974711 * (i : Int) + 12345) % 2147483647 * ((sd * 48271 + 974711 * (i : Int) + 12345) % 2147483647 / 65537 + 3) % 2147483629 / 19 % z], _, _, rfl, Ex.mut (e16.trans e7) nl, ?_, by rw [List.length_append]; simp [hd], hm, hm2, ?_⟩
        · rw [List.map_append]
          exact upd_same
        · rw [List.append_assoc]
          exact hf
      · rintro σ' H' ⟨sd, done, v, u, rfl, e, hl, hd, h0, h1', hf⟩
        have en : ((ss.map V.int).length : Int).toNat = ss.length := by simp
        rw [en, List.drop_length] at hf
        have hf2 : done = digB (c % 2147483629) 0 ss := by rw [← hf]; simp [digB]
        subst hf2
        exact s_ret (ev_var rfl) fun H5 e5 => q l H5 nl (e.trans e5) (e5 l _ hl)
end
end My

set_option Elab.async false
set_option linter.all false
set_option maxRecDepth 100000
set_option maxHeartbeats 4000000
namespace My
open PySem PySem.Spec PyProof.Rows L2 Evl
theorem et_yes {σ : L2.St} {H : Hp} : EvT tYes σ H true := fun H1 _ Q q => q H1 (Ex.refl H1)
theorem Within.get : ∀ {ds ss : List Int}, Within ds ss → ∀ i, i < ss.length → 0 ≤ ds.getD i 0 ∧ ds.getD i 0 < ss.getD i 0
  | [], [], _, i, h => absurd h (Nat.not_lt_zero i)
  | d :: ds, s :: ss, h, 0, _ => h.1
  | d :: ds, s :: ss, h, i + 1, hi => h.2.get i (by simpa using hi)
  | [], _ :: _, h, _, _ => h.elim
  | _ :: _, [], h, _, _ => h.elim
theorem Within.len : ∀ {ds ss : List Int}, Within ds ss → ds.length = ss.length
  | [], [], _ => rfl
  | _ :: _, _ :: _, h => congrArg Nat.succ h.2.len
  | [], _ :: _, h => h.elim
  | _ :: _, [], h => h.elim
def S34 : List Int := List.replicate 33 1000 ++ [10]
def S7 : List Int := [8, 70, 333, 3, 101, 35, 2001]
def bigN (rs : List Int) : Nat → Int
  | 0 => 0
  | n + 1 => bigN rs n * (if (n : Int) = 33 then 10 else 1000) + rs.getD n 0
theorem bigN_lt {rs : List Int} (h : Within rs S34) : ∀ n, n ≤ 33 → 0 ≤ bigN rs n ∧ bigN rs n < 1000 ^ n
  | 0, _ => ⟨(show (0 : Int) ≤ 0 by decide), (show (0 : Int) < 1000 ^ 0 by decide)⟩
  | n + 1, hn => by
    obtain ⟨a, b⟩ := bigN_lt h n (by omega)
    obtain ⟨c, d⟩ := h.get n (by show n < 34; omega)
    have e : S34.getD n 0 = 1000 := by
      have : ∀ n, n < 33 → S34.getD n 0 = 1000 := by decide +kernel
      exact this n (by omega)
    rw [e] at d
    unfold bigN
    rw [if_neg (by omega), Int.pow_succ]
    omega
theorem bigN_big {rs : List Int} (h : Within rs S34) {n : Nat} (hn : n ≤ 34) : 0 ≤ bigN rs n ∧ bigN rs n < big := by
  have hb : (1000 : Int) ^ 33 * 10 = big := by decide +kernel
  by_cases e : n = 34
  · subst e
    obtain ⟨a, b⟩ := bigN_lt h 33 (by decide)
    obtain ⟨c, d⟩ := h.get 33 (by decide)
    have e : S34.getD 33 0 = 10 := by decide +kernel
    rw [e] at d
    rw [← hb]
    show 0 ≤ bigN rs 33 * (if ((33 : Nat) : Int) = 33 then 10 else 1000) + rs.getD 33 0 ∧ bigN rs 33 * (if ((33 : Nat) : Int) = 33 then 10 else 1000) + rs.getD 33 0 < _
    rw [if_pos (show ((33 : Nat) : Int) = 33 from rfl)]
    omega
  · obtain ⟨a, b⟩ := bigN_lt h n (by omega)
    refine ⟨a, Int.lt_of_lt_of_le b ?_⟩
    have : ∀ n, n ≤ 33 → (1000 : Int) ^ n ≤ big := by decide +kernel
    exact this n (by omega)
def mx (x : Int) : Int := if x > 1 then x else 1
def manyF (rs ds : List Int) : Int :=
  if rs.getD 0 0 < 2 then 1 + rs.getD 1 0
  else if rs.getD 0 0 < 5 then mx (2 ^ (rs.getD 2 0).toNat + rs.getD 3 0 - 1)
  else if rs.getD 0 0 = 5 then mx (10 ^ (rs.getD 4 0).toNat - rs.getD 3 0 % 2)
  else 1 + bigN ds (rs.getD 5 0).toNat
theorem pow_mono (b : Nat) (hb : 1 ≤ b) {i j : Nat} (h : i ≤ j) : ((b : Int)) ^ i ≤ (b : Int) ^ j := by
  have := Nat.pow_le_pow_right hb h
  have h2 : ((b ^ i : Nat) : Int) ≤ ((b ^ j : Nat) : Int) := Int.ofNat_le.mpr this
  rwa [Int.natCast_pow, Int.natCast_pow] at h2
theorem many_ok {rs ds : List Int} (h : Within rs S7) (hd : Within ds S34) : 1 ≤ manyF rs ds ∧ manyF rs ds ≤ big := by
  have g1 := h.get 1 (by decide)
  have g2 := h.get 2 (by decide)
  have g3 := h.get 3 (by decide)
  have g4 := h.get 4 (by decide)
  have g5 := h.get 5 (by decide)
  have e1 : S7.getD 1 0 = 70 := rfl
  have e2 : S7.getD 2 0 = 333 := rfl
  have e3 : S7.getD 3 0 = 3 := rfl
  have e4 : S7.getD 4 0 = 101 := rfl
  have e5 : S7.getD 5 0 = 35 := rfl
  rw [e1] at g1
  rw [e2] at g2
  rw [e3] at g3
  rw [e4] at g4
  rw [e5] at g5
  have b70 : (70 : Int) ≤ big := by decide +kernel
  unfold manyF
  split
  · omega
  · split
    · have p := pow_mono 2 (by decide) (i := (rs.getD 2 0).toNat) (j := 332) (by omega)
      have b2 : ((2 : Nat) : Int) ^ 332 + 1 ≤ big := by decide +kernel
      have c2 : ((2 : Nat) : Int) = 2 := rfl
      rw [c2] at p b2
      unfold mx
      split <;> omega
    · split
      · have p := pow_mono 10 (by decide) (i := (rs.getD 4 0).toNat) (j := 100) (by omega)
        have c2 : ((10 : Nat) : Int) = 10 := rfl
        rw [c2] at p
        have hb : (10 : Int) ^ 100 = big := rfl
        rw [hb] at p
        have := Int.emod_nonneg (rs.getD 3 0) (show (2 : Int) ≠ 0 by decide)
        unfold mx
        split <;> omega
      · have := bigN_big hd (n := (rs.getD 5 0).toNat) (by omega)
        omega
section
variable {P : Program} {w : World} {K : PySem.W.Frag} {mg : Str → Option Value} {base : Heap}
/-! ### _law_power -/
abbrev s_law_power : Stmt := top 7
abbrev N_law_power : List Str := ["base", "often", "top", "k"]
theorem sc_law_power : FnScope N_law_power ["base", "often"] (defScope s_law_power) := ⟨rfl, rfl, rfl, by decide +kernel, rfl, by decide +kernel, by decide +kernel⟩
def spPower : Sp := fun vs H Q _ => ∃ b o : Int, vs = [.int b, .int o] ∧ 1 ≤ b ∧ b < 2 ^ 64 ∧ 0 ≤ o ∧ o ≤ 100000 ∧ RetV (.int (b ^ o.toNat)) H Q
theorem ok_law_power (T : TT mg) (F : At K mg "_law_power" s_law_power) : Dn P w K mg base 1 "_law_power" s_law_power ["base", "often"] spPower := by
  refine dn_ok F sc_law_power (fun _ _ _ _ _ _ us hl => match us, hl with | [_, _], _ => rfl) (fun vs H Q E h => ?_) (fun f cdv A outer s H vs Q E hr h => ?_)
  · obtain ⟨b, o, rfl, _⟩ := h; rfl
  · obtain ⟨b, o, rfl, h1, h2, h3, h4, q⟩ := h
    refine ⟨_, (pss_cons (ps_set (i := 2) sc_law_power.nd rfl (Or.inl rfl) pe_int)
      (pss_cons (ps_for PassesOwn.never rfl (pi_range1 (by rfl) T.range (pa_cons (pv 1) pa_nil)) (pg_name (i := 3) sc_law_power.nd rfl (Or.inl rfl))
        (pss_one (ps_set (i := 2) sc_law_power.nd rfl (Or.inl rfl) (pe_op op_mul (pv 2) (pv 0)))))
      (pss_one (ps_ret (pv 2))))), ?_⟩
    refine q_asg ev_c fun H1 e1 => ?_
    refine q_forR1 (ea_cons (ev_var rfl) ea_nil) ⟨h3, h4⟩ (fun i σ' H' => ∃ v : Option V, σ' = [some (.int b), some (.int o), some (.int (b ^ i)), v] ∧ Ex H H') (fun H2 e2 => ⟨none, by rw [Int.pow_zero]; rfl, e1.trans e2⟩) ?_ ?_
    · rintro i σ' H' hi ⟨v, rfl, e⟩
      refine s_asg (ev_op (ev_var rfl) (ev_var rfl) (rv_I (Or.inr ⟨by omega, h2⟩))) fun H3 e3 => ?_
      exact ⟨_, by rw [Int.pow_succ]; rfl, e.trans e3⟩
    · rintro σ' H' ⟨v, rfl, e⟩
      exact s_ret (ev_var rfl) fun H3 e3 => q H3 (e.trans e3)
theorem sv_power {b o : Int} {H : Hp} (h1 : 1 ≤ b) (h2 : b < 2 ^ 64) (h3 : 0 ≤ o) (h4 : o ≤ 100000) : SpV spPower [.int b, .int o] H (.int (b ^ o.toNat)) := fun H1 e Q q _ => ⟨b, o, rfl, h1, h2, h3, h4, q⟩
/-! ### _law_big -/
abbrev s_law_big : Stmt := top 8
abbrev N_law_big : List Str := ["row", "used", "value", "k"]
theorem sc_law_big : FnScope N_law_big ["row", "used"] (defScope s_law_big) := ⟨rfl, rfl, rfl, by decide +kernel, rfl, by decide +kernel, by decide +kernel⟩
def spBig (K : PySem.W.Frag) : Sp := fun vs H Q _ => ∃ (p : Addr) (rs : List Int) (u : Int), vs = [.ref p, .int u] ∧ SqL K H p (rs.map V.int) ∧ rs.length = 34 ∧ 0 ≤ u ∧ u ≤ 34 ∧ RetV (.int (bigN rs u.toNat)) H Q
theorem ok_law_big (T : TT mg) (F : At K mg "_law_big" s_law_big) : Dn P w K mg base 1 "_law_big" s_law_big ["row", "used"] (spBig K) := by
  refine dn_ok F sc_law_big (fun _ _ _ _ _ _ us hl => match us, hl with | [_, _], _ => rfl) (fun vs H Q E h => ?_) (fun f cdv A outer s H vs Q E hr h => ?_)
  · obtain ⟨p, rs, u, rfl, _⟩ := h; rfl
  · obtain ⟨p, rs, u, rfl, hS, hl, h0, h1, q⟩ := h
    refine ⟨_, (pss_cons (ps_set (i := 2) sc_law_big.nd rfl (Or.inl rfl) pe_int)
      (pss_cons (ps_for PassesOwn.never rfl (pi_range1 (by rfl) T.range (pa_cons (pv 1) pa_nil)) (pg_name (i := 3) sc_law_big.nd rfl (Or.inl rfl))
        (pss_one (ps_set (i := 2) sc_law_big.nd rfl (Or.inl rfl) (pe_op op_add (pe_op op_mul (pv 2) (pe_ix ix_list (pe_lst (pa_cons pe_int (pa_cons pe_int pa_nil))) (pe_callTy call_int1 (by rfl) T.int_ (by decide +kernel) (pa_cons (pe_cmpR op_eq (pv 3) pe_int (nomark _)) pa_nil)) (fun _ _ => rfl))) (pe_ix ix_list (pv 0) (pv 3) (fun _ _ => rfl))))))
      (pss_one (ps_ret (pv 2))))), ?_⟩
    refine q_asg ev_c fun H1 e1 => ?_
    refine q_forR1 (ea_cons (ev_var rfl) ea_nil) ⟨h0, by omega⟩ (fun i σ' H' => ∃ v : Option V, σ' = [some (.ref p), some (.int u), some (.int (bigN rs i)), v] ∧ Ex H H') (fun H2 e2 => ⟨none, rfl, e1.trans e2⟩) ?_ ?_
    · rintro i σ' H' hi ⟨v, rfl, e⟩
      have hg : rs[i]? = some (rs.getD i 0) := by
        rw [List.getD_eq_getElem?_getD, List.getElem?_eq_getElem (by omega)]; rfl
      have ha : atI [V.int 1000, V.int 10] (if decide (V.int (i : Int) = V.int 33) then 1 else 0) = some (.int (if (i : Int) = 33 then 10 else 1000)) := by
        by_cases z : (i : Int) = 33
        · rw [if_pos z, decide_eq_true (by rw [z])]; rfl
        · rw [if_neg z, decide_eq_false (fun c => z (by injection c))]; rfl
      refine s_asg (ev_op (ev_op (ev_var rfl) (ev_opL1 (el_lst (ea_cons ev_c (ea_cons ev_c ea_nil)) (by decide)) (fun _ _ => ev_intB (ev_op (ev_var rfl) ev_c (rv_eq rfl))) (fun p1 H3 hp _ => rv_ixL (K := K) (sq_of hp) ha)) (rv_I (Or.inr (by split <;> decide)))) (ev_op (ev_var rfl) (ev_var rfl) (rv_ixL (ex_l e hS) (at_map (by omega) (by simpa using hg)))) rv_I0) fun H3 e3 => ?_
      exact ⟨_, rfl, e.trans e3⟩
    · rintro σ' H' ⟨v, rfl, e⟩
      exact s_ret (ev_var rfl) fun H3 e3 => q H3 (e.trans e3)
theorem sv_big {p : Addr} {rs : List Int} {u : Int} {H : Hp} (hS : SqL K H p (rs.map V.int)) (hl : rs.length = 34) (h0 : 0 ≤ u) (h1 : u ≤ 34) : SpV (spBig K) [.ref p, .int u] H (.int (bigN rs u.toNat)) := fun H1 e Q q _ => ⟨p, rs, u, rfl, ex_l e hS, hl, h0, h1, q⟩
/-! ### _law_many -/
abbrev s_law_many : Stmt := top 9
abbrev N_law_many : List Str := ["row", "digits"]
theorem sc_law_many : FnScope N_law_many ["row", "digits"] (defScope s_law_many) := ⟨rfl, rfl, rfl, by decide +kernel, rfl, by decide +kernel, by decide +kernel⟩
def spMany (K : PySem.W.Frag) : Sp := fun vs H Q _ => ∃ (p d : Addr) (rs ds : List Int), vs = [.ref p, .ref d] ∧ SqL K H p (rs.map V.int) ∧ SqL K H d (ds.map V.int) ∧ Within rs S7 ∧ Within ds S34 ∧ RetV (.int (manyF rs ds)) H Q
theorem at_d {rs : List Int} {i : Nat} (h : i < rs.length) : atI (rs.map V.int) (i : Int) = some (.int (rs.getD i 0)) := at_map (by omega) (by
  rw [Int.toNat_natCast, List.getD_eq_getElem?_getD, List.getElem?_eq_getElem h]; rfl)
theorem ok_law_many (T : TT mg) (F : At K mg "_law_many" s_law_many) (D_law_power : Dn P w K mg base 1 "_law_power" s_law_power ["base", "often"] spPower) (D_law_big : Dn P w K mg base 1 "_law_big" s_law_big ["row", "used"] (spBig K)) : Dn P w K mg base 2 "_law_many" s_law_many ["row", "digits"] (spMany K) := by
  refine dn_ok F sc_law_many (fun _ _ _ _ _ _ us hl => match us, hl with | [_, _], _ => rfl) (fun vs H Q E h => ?_) (fun f cdv A outer s H vs Q E hr h => ?_)
  · obtain ⟨p, d, rs, ds, rfl, _⟩ := h; rfl
  · obtain ⟨p, d, rs, ds, rfl, hS, hD, hw, hv, q⟩ := h
    refine ⟨_, (pss_cons (ps_if (pt_cmpR op_lt (pe_ix ix_list (pv 0) pe_int (fun _ _ => rfl)) pe_int (nomark _)) (pss_one (ps_ret (pe_op op_add pe_int (pe_ix ix_list (pv 0) pe_int (fun _ _ => rfl))))) pss_nil)
      (pss_cons (ps_if (pt_cmpR op_lt (pe_ix ix_list (pv 0) pe_int (fun _ _ => rfl)) pe_int (nomark _)) (pss_one (ps_ret (pe_callB (call_max2 rfl) (by rfl) T.max (by decide +kernel) (pa_cons pe_int (pa_cons (pe_op op_sub (pe_op op_add (pe_dn D_law_power hr (by decide) rfl (pa_cons pe_int (pa_cons (pe_ix ix_list (pv 0) pe_int (fun _ _ => rfl)) pa_nil))) (pe_ix ix_list (pv 0) pe_int (fun _ _ => rfl))) pe_int) pa_nil))))) pss_nil)
      (pss_cons (ps_if (pt_cmpR op_eq (pe_ix ix_list (pv 0) pe_int (fun _ _ => rfl)) pe_int (nomark _)) (pss_one (ps_ret (pe_callB (call_max2 rfl) (by rfl) T.max (by decide +kernel) (pa_cons pe_int (pa_cons (pe_op op_sub (pe_dn D_law_power hr (by decide) rfl (pa_cons pe_int (pa_cons (pe_ix ix_list (pv 0) pe_int (fun _ _ => rfl)) pa_nil))) (pe_op op_mod (pe_callTy call_int1 (by rfl) T.int_ (by decide +kernel) (pa_cons (pe_ix ix_list (pv 0) pe_int (fun _ _ => rfl)) pa_nil)) pe_int)) pa_nil))))) pss_nil)
      (pss_one (ps_ret (pe_op op_add pe_int (pe_dn D_law_big hr (by decide) rfl (pa_cons (pv 1) (pa_cons (pe_ix ix_list (pv 0) pe_int (fun _ _ => rfl)) pa_nil))))))))), ?_⟩
    have hl : rs.length = 7 := hw.len
    have g2 : 0 ≤ rs.getD 2 0 ∧ rs.getD 2 0 < 333 := hw.get 2 (by decide)
    have g4 : 0 ≤ rs.getD 4 0 ∧ rs.getD 4 0 < 101 := hw.get 4 (by decide)
    have g5 : 0 ≤ rs.getD 5 0 ∧ rs.getD 5 0 < 35 := hw.get 5 (by decide)
    have ix : ∀ (i : Nat) (H1 : Hp), i < 7 → Ex H H1 → Ev (tOp (rIxL K) (tVar 0) (tC (.int (i : Int)))) [some (V.ref p), some (V.ref d)] H1 (.int (rs.getD i 0)) := fun i H1 hi e => ev_op (ev_var rfl) ev_c (rv_ixL (ex_l e hS) (at_d (by omega)))
    refine q_when (et_test (ev_op (ix 0 H (by decide) (Ex.refl H)) ev_c rv_I0)) (fun hb H1 e1 => ?_) (fun hb H1 e1 => ?_)
    · have hc := of_decide_eq_true hb
      have ev : manyF rs ds = 1 + rs.getD 1 0 := if_pos hc
      rw [ev] at q
      exact s_ret (ev_op ev_c (ix 1 H1 (by decide) e1) rv_I0) fun H2 e2 => q H2 (e1.trans e2)
    · have hc := of_decide_eq_false hb
      refine q_when (et_test (ev_op (ix 0 H1 (by decide) e1) ev_c rv_I0)) (fun hb2 H2 e2 => ?_) (fun hb2 H2 e2 => ?_)
      · have hc2 := of_decide_eq_true hb2
        have ev : manyF rs ds = mx (2 ^ (rs.getD 2 0).toNat + rs.getD 3 0 - 1) := by
          unfold manyF
          rw [if_neg hc, if_pos hc2]
        rw [ev] at q
        have e12 := e1.trans e2
        exact s_ret (ev_max2 ev_c (ev_op (ev_op (ev_call (ea_cons ev_c (ea_cons (ix 2 H2 (by decide) e12) ea_nil)) (sv_power (by decide) (by decide) g2.1 (by omega))) (ix 3 H2 (by decide) e12) rv_I0) ev_c rv_I0)) fun H3 e3 => q H3 (e12.trans e3)
      · have hc2 := of_decide_eq_false hb2
        have e12 := e1.trans e2
        refine q_when (et_test (ev_op (ix 0 H2 (by decide) e12) ev_c (rv_eq rfl))) (fun hb3 H3 e3 => ?_) (fun hb3 H3 e3 => ?_)
        · have hc3 : rs.getD 0 0 = 5 := by
            have := of_decide_eq_true hb3
            injection this
          have ev : manyF rs ds = mx (10 ^ (rs.getD 4 0).toNat - rs.getD 3 0 % 2) := by
            unfold manyF
            rw [if_neg hc, if_neg hc2, if_pos hc3]
          rw [ev] at q
          have e13 := e12.trans e3
          exact s_ret (ev_max2 ev_c (ev_op (ev_call (ea_cons ev_c (ea_cons (ix 4 H3 (by decide) e13) ea_nil)) (sv_power (by decide) (by decide) g4.1 (by omega))) (ev_op (ev_int (ix 3 H3 (by decide) e13)) ev_c (rv_I (by decide))) rv_I0)) fun H4 e4 => q H4 (e13.trans e4)
        · have hc3 : ¬ rs.getD 0 0 = 5 := by
            have := of_decide_eq_false hb3
            intro z
            exact this (by rw [z])
          have ev : manyF rs ds = 1 + bigN ds (rs.getD 5 0).toNat := by
            unfold manyF
            rw [if_neg hc, if_neg hc2, if_neg hc3]
          rw [ev] at q
          have e13 := e12.trans e3
          exact s_ret (ev_op ev_c (ev_call (ea_cons (ev_var rfl) (ea_cons (ix 5 H3 (by decide) e13) ea_nil)) (sv_big (ex_l e13 hD) hv.len g5.1 (by omega))) rv_I0) fun H4 e4 => q H4 (e13.trans e4)
theorem sv_many {p d : Addr} {rs ds : List Int} {H : Hp} (hS : SqL K H p (rs.map V.int)) (hD : SqL K H d (ds.map V.int)) (hw : Within rs S7) (hv : Within ds S34) : SpV (spMany K) [.ref p, .ref d] H (.int (manyF rs ds)) := fun H1 e Q q _ => ⟨p, d, rs, ds, rfl, ex_l e hS, ex_l e hD, hw, hv, q⟩
/-! ### _law_width -/
abbrev s_law_width : Stmt := top 10
abbrev N_law_width : List Str := ["many", "wide", "top", "k"]
theorem sc_law_width : FnScope N_law_width ["many"] (defScope s_law_width) := ⟨rfl, rfl, rfl, by decide +kernel, rfl, by decide +kernel, by decide +kernel⟩
def top2 : Int := 2 ^ 2099
def spLW : Sp := fun vs H Q _ => ∃ m : Int, vs = [.int m] ∧ 1 ≤ m ∧ m ≤ top2 ∧ RetV (.int (wd m : Nat)) H Q
theorem ok_law_width (T : TT mg) (F : At K mg "_law_width" s_law_width) : Dn P w K mg base 1 "_law_width" s_law_width ["many"] spLW := by
  refine dn_ok F sc_law_width (fun _ _ _ _ _ _ us hl => match us, hl with | [_], _ => rfl) (fun vs H Q E h => ?_) (fun f cdv A outer s H vs Q E hr h => ?_)
  · obtain ⟨m, rfl, _⟩ := h; rfl
  · obtain ⟨m, rfl, h1, h2, q⟩ := h
    refine ⟨_, (pss_cons (ps_set (i := 1) sc_law_width.nd rfl (Or.inl rfl) pe_int)
      (pss_cons (ps_set (i := 2) sc_law_width.nd rfl (Or.inl rfl) pe_int)
      (pss_cons (ps_for PassesOwn.never rfl (pi_range1 (by rfl) T.range (pa_cons pe_int pa_nil)) (pg_name (i := 3) sc_law_width.nd rfl (Or.inl rfl))
        (pss_cons (ps_if (pt_cmpR op_ge (pv 2) (pv 0) (nomark _)) (pss_one ps_break) pss_nil)
          (pss_cons (ps_set (i := 2) sc_law_width.nd rfl (Or.inl rfl) (pe_op op_mul (pv 2) pe_int))
          (pss_one (ps_set (i := 1) sc_law_width.nd rfl (Or.inl rfl) (pe_op op_add (pv 1) pe_int))))))
      (pss_one (ps_ret (pv 1)))))), ?_⟩
    refine q_asg ev_c fun H1 e1 => ?_
    refine q_asg ev_c fun H2 e2 => ?_
    refine q_forR1 (ea_cons ev_c ea_nil) ⟨by decide, by decide⟩ (fun i σ' H' => ∃ v : Option V, σ' = [some (.int m), some (.int (i : Int)), some (.int (2 ^ i)), v] ∧ Ex H H' ∧ ∀ j, j < i → (2 : Int) ^ j < m) (fun H3 e3 => ⟨none, rfl, (e1.trans e2).trans e3, fun j hj => absurd hj (Nat.not_lt_zero j)⟩) ?_ ?_
    · rintro i σ' H' hi ⟨v, rfl, e, hj⟩
      refine q_when (et_test (ev_op (ev_var rfl) (ev_var rfl) rv_I0)) (fun hb H3 e3 => ?_) (fun hb H3 e3 => ?_)
      · have hc : m ≤ 2 ^ i := of_decide_eq_true hb
        have hw := wd_uniq h1 hc hj
        rw [← hw] at q
        show tRet (tVar 1) { nx := fun _ H' => Q .non H', rt := Q } _ _
        exact s_ret (ev_var rfl) fun H4 e4 => q H4 ((e.trans e3).trans e4)
      · have hc : ¬ m ≤ 2 ^ i := of_decide_eq_false hb
        refine q_asg (ev_op (ev_var rfl) ev_c (rv_I (Or.inr (by decide)))) fun H4 e4 => ?_
        refine s_asg (ev_op (ev_var rfl) ev_c rv_I0) fun H5 e5 => ?_
        refine ⟨_, by rw [Int.pow_succ]; rfl, ((e.trans e3).trans e4).trans e5, fun j hj2 => ?_⟩
        by_cases z : j < i
        · exact hj j z
        · have : j = i := by omega
          subst this
          omega
    · rintro σ' H' ⟨v, rfl, e, hj⟩
      have := hj 2099 (by decide)
      unfold top2 at h2
      omega
theorem sv_lw {m : Int} {H : Hp} (h1 : 1 ≤ m) (h2 : m ≤ top2) : SpV spLW [.int m] H (.int (wd m : Nat)) := fun H1 e Q q _ => ⟨m, rfl, h1, h2, q⟩
end
end My

set_option Elab.async false
set_option linter.all false
set_option maxRecDepth 100000
set_option maxHeartbeats 4000000
namespace My
open PySem PySem.Spec PyProof.Rows L2 Evl
theorem flat_ints (ns : List Int) : (ns.map V.int).all flatV = true := by
  rw [List.all_eq_true]
  intro x hx
  obtain ⟨z, _, rfl⟩ := List.mem_map.mp hx
  rfl
theorem in_ints (z : Int) (ns : List Int) : inV (.int z) (ns.map V.int) = decide (z ∈ ns) := by
  unfold inV
  induction ns with
  | nil => simp
  | cons a ns ih =>
    rw [List.map_cons, List.any_cons, ih]
    have : eqV (.int a) (.int z) = (a == z) := rfl
    rw [this]
    by_cases h : a = z
    · subst h; simp
    · have h2 : ¬ z = a := fun e => h e.symm
      simp [h, h2]
theorem given_map {α : Type} (xs : List α) (d : α) (g : α → V) (v : Nat → V) (h : ∀ i, i < xs.length → v i = g (xs.getD i d)) : given xs.length (fun _ => true) v = xs.map g := by
  unfold given
  rw [List.filter_eq_self.mpr (fun _ _ => rfl)]
  refine List.ext_getElem (by simp) fun i h1 h2 => ?_
  rw [List.getElem_map, List.getElem_map, List.getElem_range]
  rw [List.length_map] at h2
  rw [h i h2, List.getD_eq_getElem?_getD, List.getElem?_eq_getElem h2]
  rfl
section
variable {P : Program} {w : World} {K : PySem.W.Frag} {mg : Str → Option Value} {base : Heap}
/-! ### _law_widths_right -/
abbrev s_law_widths_right : Stmt := top 11
abbrev N_law_widths_right : List Str := ["many", "value", "told"]
theorem sc_law_widths_right : FnScope N_law_widths_right ["many"] (defScope s_law_widths_right) := ⟨rfl, rfl, rfl, by decide +kernel, rfl, by decide +kernel, by decide +kernel⟩
def top3 : Int := 2 ^ 2098
theorem top3_2 : 2 * top3 = top2 := by decide +kernel
theorem top3_1 : top3 + 1 ≤ top2 := by decide +kernel
def spWR : Sp := fun vs H Q _ => ∃ m : Int, vs = [.int m] ∧ 1 ≤ m ∧ m ≤ top3 ∧ RetV (.bl true) H Q
theorem ok_law_widths_right (F : At K mg "_law_widths_right" s_law_widths_right) (D_width : Dn P w K mg base 1 "width" s_width ["options"] spWidth) (D_width_options : Kd P w K mg base 1 "width" 0 ["options"] (fun _ zs => zs) spWidth)
    (D_law_whole : Dn P w K mg base 1 "_law_whole" s_law_whole ["value"] spWhole) (D_law_width : Dn P w K mg base 1 "_law_width" s_law_width ["many"] spLW) : Dn P w K mg base 2 "_law_widths_right" s_law_widths_right ["many"] spWR := by
  refine dn_ok F sc_law_widths_right (fun _ _ _ _ _ _ us hl => match us, hl with | [_], _ => rfl) (fun vs H Q E h => ?_) (fun f cdv A outer s H vs Q E hr h => ?_)
  · obtain ⟨m, rfl, _⟩ := h; rfl
  · obtain ⟨m, rfl, h1, h2, q⟩ := h
    refine ⟨_, (pss_cons (ps_for PassesOwn.never rfl (pi_list (pe_lst (pa_cons (pv 0) (pa_cons (pe_op op_add (pv 0) pe_int) (pa_cons (pe_op op_mul pe_int (pv 0)) pa_nil))))) (pg_name (i := 1) sc_law_widths_right.nd rfl (Or.inl rfl))
        (pss_cons (ps_set (i := 2) sc_law_widths_right.nd rfl (Or.inl rfl) (pe_dn D_width hr (by decide) rfl (pa_cons (pv 1) pa_nil)))
          (pss_cons (ps_if (PW.pt (pw_or (pt_not (pt_val (pe_dn D_law_whole hr (by decide) rfl (pa_cons (pv 2) pa_nil)))) (pw_or1 (pt_cmpR op_ne (pv 2) (pe_dn D_law_width hr (by decide) rfl (pa_cons (pv 1) pa_nil)) (nomark _))))) (pss_one (ps_ret pe_bl)) pss_nil)
          (pss_one (ps_if (pt_cmpR op_ne (pe_kd D_width_options hr (by decide) rfl (pk_cons (pv 1) pk_nil)) (pv 2) (nomark _)) (pss_one (ps_ret pe_bl)) pss_nil)))))
      (pss_one (ps_ret pe_bl))), ?_⟩
    have t1 := top3_1
    have t2 := top3_2
    refine q_forNLn (K := K) (xs := [.int m, .int (m + 1), .int (2 * m)]) (el_lst (ea_cons (ev_var rfl) (ea_cons (ev_op (ev_var rfl) ev_c rv_I0) (ea_cons (ev_op ev_c (ev_var rfl) (rv_I (Or.inl (by decide)))) ea_nil))) (by show 3 ≤ 100000; decide))
      (fun p i σ' H' => ∃ v u : Option V, σ' = [some (.int m), v, u] ∧ Ex H H' ∧ H' p = some (.lst [.int m, .int (m + 1), .int (2 * m)])) (fun p H1 _ e1 hp => ⟨none, none, rfl, e1, hp⟩) (fun p i σ' H' _ ⟨_, _, _, _, hp⟩ => sq_of hp) ?_ ?_
    · rintro p i x σ' H' hx ⟨v, u, rfl, e, hp⟩
      obtain ⟨z, rfl, z1, z2⟩ : ∃ z, x = V.int z ∧ 1 ≤ z ∧ z ≤ top2 := by
        match i, hx with
        | 0, hx => exact ⟨m, (Option.some.inj hx).symm, h1, by omega⟩
        | 1, hx => exact ⟨m + 1, (Option.some.inj hx).symm, by omega, by omega⟩
        | 2, hx => exact ⟨2 * m, (Option.some.inj hx).symm, by omega, by omega⟩
        | i + 3, hx => cases hx
      refine q_asg (ev_call (ea_cons (ev_var rfl) ea_nil) sv_width) fun H3 e3 => ?_
      refine q_when (et_or (et_not (et_B (ev_call (ea_cons (ev_var rfl) ea_nil) sv_whole))) fun _ => et_test (ev_op (ev_var rfl) (ev_call (ea_cons (ev_var rfl) ea_nil) (sv_lw z1 z2)) (rv_ne rfl))) (fun hb H4 e4 => ?_) (fun hb H4 e4 => ?_)
      · simp at hb
      · refine s_when (et_test (ev_op (ev_callN ea_nil (ea_cons (ev_var rfl) ea_nil) rfl rfl sv_width) (ev_var rfl) (rv_ne rfl))) (fun hb2 H5 e5 => ?_) (fun hb2 H5 e5 => ?_)
        · simp at hb2
        · have e35 := (e3.trans e4).trans e5
          exact ⟨_, _, rfl, e.trans e35, e35 p _ hp⟩
    · rintro p σ' H' ⟨v, u, rfl, e, hp⟩
      exact s_ret ev_c fun H3 e3 => q H3 (e.trans e3)
theorem sv_wr {m : Int} {H : Hp} (h1 : 1 ≤ m) (h2 : m ≤ top3) : SpV spWR [.int m] H (.bl true) := fun H1 e Q q _ => ⟨m, rfl, h1, h2, q⟩
/-! ### _law_value -/
abbrev s_law_value : Stmt := top 13
abbrev N_law_value : List Str := ["bits", "wide", "value", "bit"]
theorem sc_law_value : FnScope N_law_value ["bits", "wide"] (defScope s_law_value) := ⟨rfl, rfl, rfl, by decide +kernel, rfl, by decide +kernel, by decide +kernel⟩
def spValue : Sp := fun vs H Q _ => ∃ (l : List Nat), vs = [.str ⟨l.toArray⟩, .int (l.length : Int)] ∧ l.length ≤ 100000 ∧ (∀ c ∈ l, c = 48 ∨ c = 49) ∧ RetV (.int (valL l)) H Q
theorem kit_str_str {K : PySem.W.Frag} : PySem.W.kitOne K (.type "str") (.type "str") = some true := by rfl
theorem ok_law_value (T : TT mg) (F : At K mg "_law_value" s_law_value) : Dn P w K mg base 1 "_law_value" s_law_value ["bits", "wide"] spValue := by
  refine dn_ok F sc_law_value (fun _ _ _ _ _ _ us hl => match us, hl with | [_, _], _ => rfl) (fun vs H Q E h => ?_) (fun f cdv A outer s H vs Q E hr h => ?_)
  · obtain ⟨l, rfl, _⟩ := h; rfl
  · obtain ⟨l, rfl, h1, h2, q⟩ := h
    refine ⟨_, (pss_cons (ps_if (PW.pt (pw_or (pt_not (pt_val (pe_callB call_isi (by rfl) T.isinstance (by decide +kernel) (pa_cons (pv 0) (pa_cons (pe_tyn "str" rfl T.str_ (by decide +kernel)) pa_nil))))) (pw_or1 (pt_cmpR op_ne (pe_callB call_len_str (by rfl) T.len boot_len (pa_cons (pv 0) pa_nil)) (pv 1) (nomark _))))) (pss_one (ps_ret (pe_un un_neg pe_int))) pss_nil)
      (pss_cons (ps_set (i := 2) sc_law_value.nd rfl (Or.inl rfl) pe_int)
      (pss_cons (ps_for PassesOwn.never rfl (pi_str (pv 0)) (pg_name (i := 3) sc_law_value.nd rfl (Or.inl rfl))
        (pss_cons (ps_if (PW.pt (pw_and (pt_cmpR op_ne (pv 3) pe_str (nomark _)) (pw_and1 (pt_cmpR op_ne (pv 3) pe_str (nomark _))))) (pss_one (ps_ret (pe_un un_neg pe_int))) pss_nil)
          (pss_one (ps_set (i := 2) sc_law_value.nd rfl (Or.inl rfl) (pe_op op_add (pe_op op_mul (pv 2) pe_int) (pe_callTy call_int1 (by rfl) T.int_ (by decide +kernel) (pa_cons (pe_cmpR op_eq (pv 3) pe_str (nomark _)) pa_nil)))))))
      (pss_one (ps_ret (pv 2)))))), ?_⟩
    have hlen : (⟨l.toArray⟩ : Str).length = l.length := by simp [Str.length]
    refine q_when (et_or (et_not (et_B (ev_isi (K := K) (ev_var rfl) ev_c (ClsV.ty "str") (fun _ _ => .base (.str _)) kit_str_str))) fun _ => et_test (ev_op (ev_lenStr (ev_var rfl) (by rw [hlen]; exact sz_of h1)) (ev_var rfl) (rv_ne rfl))) (fun hb H1 e1 => ?_) (fun hb H1 e1 => ?_)
    · rw [hlen] at hb
      simp at hb
    · refine q_asg ev_c fun H2 e2 => ?_
      refine q_forS (ev_var rfl) (fun i σ' H' => ∃ v : Option V, σ' = [some (.str ⟨l.toArray⟩), some (.int (l.length : Int)), some (.int (valL (l.take i))), v] ∧ Ex H H') (fun H3 e3 => ⟨none, rfl, (e1.trans e2).trans e3⟩) ?_ ?_
      · rintro i c σ' H' hc ⟨v, rfl, e⟩
        have hc' : l[i]? = some c := by simpa using hc
        have hm := h2 c (List.mem_of_getElem? hc')
        obtain ⟨hi, he⟩ := List.getElem?_eq_some_iff.mp hc'
        have hv : valL (l.take (i + 1)) = valL (l.take i) * 2 + if c = 49 then 1 else 0 := by
          rw [List.take_succ_eq_append_getElem hi, he, valL_snoc]
        refine q_when (et_and (et_test (ev_op (ev_var rfl) ev_c (rv_ne rfl))) fun _ => et_test (ev_op (ev_var rfl) ev_c (rv_ne rfl))) (fun hb3 H3 e3 => ?_) (fun hb3 H3 e3 => ?_)
        · exfalso
          rcases hm with rfl | rfl
          · exact absurd hb3 (by decide)
          · exact absurd hb3 (by decide)
        · refine s_asg (ev_op (ev_op (ev_var rfl) ev_c (rv_I (Or.inr (by decide)))) (ev_intB (ev_op (ev_var rfl) ev_c (rv_eq rfl))) rv_I0) fun H4 e4 => ?_
          refine ⟨some (.str ⟨#[c]⟩), ?_, (e.trans e3).trans e4⟩
          rw [hv]
          rcases hm with rfl | rfl
          · rfl
          · rfl
      · rintro σ' H' ⟨v, rfl, e⟩
        have hs : (⟨l.toArray⟩ : Str).cps.size = l.length := by simp
        rw [hs, List.take_length]
        exact s_ret (ev_var rfl) fun H3 e3 => q H3 (e.trans e3)
theorem sv_value {l : List Nat} {n : Int} {H : Hp} (hn : n = (l.length : Int)) (h1 : l.length ≤ 100000) (h2 : ∀ c ∈ l, c = 48 ∨ c = 49) : SpV spValue [.str ⟨l.toArray⟩, .int n] H (.int (valL l)) := fun H1 e Q q _ => ⟨l, by rw [hn], h1, h2, q⟩
/-! ### _law_numbers -/
abbrev s_law_numbers : Stmt := top 12
abbrev N_law_numbers : List Str := ["many", "drawn", "found", "n"]
theorem sc_law_numbers : FnScope N_law_numbers ["many", "drawn"] (defScope s_law_numbers) := ⟨rfl, rfl, rfl, by decide +kernel, rfl, by decide +kernel, by decide +kernel⟩
def OkN (m : Int) (ns : List Int) : Prop := ns.Pairwise (· < ·) ∧ (∀ x ∈ ns, 0 ≤ x ∧ x < m) ∧ ns.length ≤ 100
def spNumbers : Sp := fun vs H Q _ => ∃ (m : Int) (p : Addr) (ds : List Int), vs = [.int m, .ref p] ∧ H p = some (.lst (ds.map V.int)) ∧ 1 ≤ m ∧ ds.length ≤ 10 ∧ (∀ d ∈ ds, 0 ≤ d ∧ d < m) ∧ ∀ ns, OkN m ns → RetL (ns.map V.int) H Q
def rgN (n : Nat) : List Int := (List.range n).map fun (i : Nat) => (i : Int)
theorem rgN_ok (m : Int) (hm : 1 ≤ m) (h : m ≤ 70) : OkN m (rgN m.toNat) := by
  refine ⟨?_, ?_, ?_⟩
  · unfold rgN
    rw [List.pairwise_map]
    refine List.Pairwise.imp (fun h => ?_) List.pairwise_lt_range
    omega
  · intro x hx
    obtain ⟨i, hi, rfl⟩ := List.mem_map.mp hx
    have := List.mem_range.mp hi
    omega
  · unfold rgN
    rw [List.length_map, List.length_range]
    omega
theorem ok_law_numbers (T : TT mg) (F : At K mg "_law_numbers" s_law_numbers) : Dn P w K mg base 1 "_law_numbers" s_law_numbers ["many", "drawn"] spNumbers := by
  refine dn_ok F sc_law_numbers (fun _ _ _ _ _ _ us hl => match us, hl with | [_, _], _ => rfl) (fun vs H Q E h => ?_) (fun f cdv A outer s H vs Q E hr h => ?_)
  · obtain ⟨m, p, ds, rfl, _⟩ := h; rfl
  · obtain ⟨m, p, ds, rfl, hp, hm, hdl, hds, q⟩ := h
    refine ⟨_, (pss_cons (ps_if (pt_cmpR op_le (pv 0) pe_int (nomark _)) (pss_one (ps_ret (pe_listRg rfl rfl T.list_ (prg_1 rfl T.range (pv 0))))) pss_nil)
      (pss_cons (ps_set (i := 2) sc_law_numbers.nd rfl (Or.inl rfl) (pe_lst pa_nil))
      (pss_cons (ps_for PassesOwn.never rfl (pi_list (pe_op op_cat (pe_op op_cat (pe_lst (pa_cons pe_int (pa_cons pe_int (pa_cons (pe_op op_fdiv (pv 0) pe_int) (pa_cons (pe_op op_sub (pv 0) pe_int) (pa_cons (pe_op op_sub (pv 0) pe_int) pa_nil)))))) (pv 1)) (pe_lc (own := [("n", 3)]) (g := gName 3) (tt := tYes) rfl sc_law_numbers.nd (pi_list (pv 1)) (blkOk_by (own := [("n", 3)]) (N := N_law_numbers) (sc := defScope s_law_numbers) (by decide +kernel)) (fun _ _ _ _ _ => pg_name (i := 3) sc_law_numbers.nd rfl (Or.inl rfl)) (fun _ _ _ _ _ => pts_nil) (fun _ _ _ _ _ => (pe_op op_mod (pe_callTy call_int1 (by rfl) T.int_ (by decide +kernel) (pa_cons (pe_op op_add (pv 3) pe_int) pa_nil)) (pv 0)))))) (pg_name (i := 3) sc_law_numbers.nd rfl (Or.inl rfl))
        (pss_one (ps_if (pt_cmpR op_notIn_seq (pv 3) (pv 2) (by rfl)) (pss_one (ps_expr (pe_bm PySem.F.plainAttrs_list PySem.F.slot_list_append PySem.F.type_list_append mt_append (pv 2) (pa_cons (pv 3) pa_nil)))) pss_nil)))
      (pss_one (ps_ret (pe_callB cr_sortedI (by rfl) T.sorted (by decide +kernel) (pa_cons (pv 2) pa_nil))))))), ?_⟩
    refine q_when (et_test (ev_op (ev_var rfl) ev_c rv_I0)) (fun hb H1 e1 => ?_) (fun hb H1 e1 => ?_)
    · have hc : m ≤ 70 := of_decide_eq_true hb
      refine ⟨_, rfl, m, rfl, RgOk.of_le (by decide) (by omega) (by decide) (by omega), fun l hl => ?_⟩
      have e : rgV 0 m = (rgN m.toNat).map V.int := by
        unfold rgV rgN
        rw [List.map_map, Int.sub_zero]
        refine List.map_congr_left fun i _ => ?_
        show V.int (0 + (i : Int)) = V.int (i : Int)
        rw [Int.zero_add]
      rw [e]
      exact q _ (rgN_ok m hm hc) l _ (fresh_back e1 hl) (e1.trans (Ex.new hl)) upd_same
    · have hc : ¬ m ≤ 70 := of_decide_eq_false hb
      refine q_asgL (el_lst ea_nil (by decide)) fun l H2 nl e2 h2 => ?_
      have e12 := e1.trans e2
      have nl0 : H l = none := fresh_back e1 nl
      have comp : EvL (tLc (iList K (tVar 1)) (gName 3) tYes (tOp (rI (fun _ j => 0 < j) fun i j => .int (i % j)) (tCB rInt1 (tCons (tOp (rI0 fun i j => .int (i + j)) (tVar 3) (tC (.int 1))) tNil)) (tVar 0)) [3]) [some (V.int m), some (V.ref p), some (V.ref l), none] H2 ((ds.map fun d => (d + 1) % m).map V.int) := by
        have e := given_map ds 0 (fun d => V.int ((d + 1) % m)) (fun i => V.int ((ds.getD i 0 + 1) % m)) (fun i _ => rfl)
        rw [List.map_map]
        show EvL _ _ _ (ds.map fun d => V.int ((d + 1) % m))
        rw [← e]
        have hz : ds.length = (ds.map V.int).length := by rw [List.length_map]
        rw [hz]
        refine el_lcL (K := K) (xs := ds.map V.int) (fun _ => true) _ (ev_var rfl) (sq_of (e12 p _ hp)) (by rw [List.length_map]; omega) (fun _ => rfl) (fun i x H3 _ _ => et_yes) (fun i x H3 _ hx _ => ?_)
        obtain ⟨z, hz, rfl⟩ := get_map hx
        have hg : ds.getD i 0 = z := by rw [List.getD_eq_getElem?_getD, hz]; rfl
        rw [hg]
        exact ev_op (ev_int (ev_op (ev_var rfl) ev_c rv_I0)) (ev_var rfl) (rv_I (by omega))
      let zs : List Int := [0, 1, m / 2, m - 2, m - 1] ++ ds ++ ds.map fun d => (d + 1) % m
      have hzl : zs.length ≤ 25 := by simp [zs]; omega
      have hzs : ∀ z ∈ zs, 0 ≤ z ∧ z < m := by
        intro z hz
        rcases List.mem_append.mp hz with hz | hz
        · rcases List.mem_append.mp hz with hz | hz
          · simp only [List.mem_cons, List.not_mem_nil, or_false] at hz
            rcases hz with rfl | rfl | rfl | rfl | rfl <;> omega
          · exact hds z hz
        · obtain ⟨d, hd, rfl⟩ := List.mem_map.mp hz
          exact ⟨Int.emod_nonneg _ (by omega), Int.emod_lt_of_pos _ (by omega)⟩
      refine q_forNLn (K := K) (xs := zs.map V.int) ?lst
        (fun a i σ' H' => ∃ (fs : List Int) (v : Option V), σ' = [some (.int m), some (.ref p), some (.ref l), v] ∧ Ex H H' ∧ a ≠ l ∧ H' a = some (.lst (zs.map V.int)) ∧ H' l = some (.lst (fs.map V.int)) ∧ fs.Nodup ∧ (∀ x ∈ fs, 0 ≤ x ∧ x < m) ∧ fs.length ≤ i)
        (fun a H3 na e3 ha => ⟨[], none, rfl, e12.trans e3, (fun z => by rw [z, h2] at na; cases na), ha, e3 l _ h2, List.nodup_nil, fun _ h => absurd h List.not_mem_nil, Nat.le_refl _⟩) (fun a i σ' H' _ ⟨_, _, _, _, _, ha, _⟩ => sq_of ha) ?_ ?_
      case lst =>
        have e : zs.map V.int = ([.int 0, .int 1, .int (m / 2), .int (m - 2), .int (m - 1)] ++ ds.map V.int) ++ (ds.map fun d => (d + 1) % m).map V.int := by simp [zs]
        rw [e]
        refine el_cat (el_catV (el_lst (ea_cons ev_c (ea_cons ev_c (ea_cons (ev_op (ev_var rfl) ev_c (rv_I (by unfold CDiv; decide))) (ea_cons (ev_op (ev_var rfl) ev_c rv_I0) (ea_cons (ev_op (ev_var rfl) ev_c rv_I0) ea_nil))))) (by show 5 ≤ 100000; decide)) (ev_var rfl) (e12 p _ hp) (by simp; omega)) comp (by simp; omega)
      · rintro a i x σ' H' hx ⟨fs, v, rfl, e, hal, ha, hl, hn, hf, hfl⟩
        obtain ⟨z, hz, rfl⟩ := get_map hx
        have hi := (List.getElem?_eq_some_iff.mp hz).1
        obtain ⟨z0, z1⟩ := hzs z (List.mem_of_getElem? hz)
        refine s_when (et_test (ev_op (ev_var rfl) (ev_var rfl) (rv_niL (sq_of hl) rfl (flat_ints fs)))) (fun hb3 H3 e3 => ?_) (fun hb3 H3 e3 => ?_)
        · rw [in_ints] at hb3
          have hnot : z ∉ fs := by simpa using hb3
          refine s_app (e3 l _ hl) (ev_var rfl) (ev_var rfl) (by rw [List.length_map]; omega) fun H4 e4 => ?_
          have e34 := e3.trans e4
          refine ⟨fs ++ [z], _, rfl, Ex.mut (e.trans e34) nl0, hal, ?_, ?_, ?_, ?_, ?_⟩
          · rw [upd_ne hal]; exact e34 a _ ha
          · rw [List.map_append]; exact upd_same
          · rw [List.nodup_append]
            exact ⟨hn, by simp, fun u hu y hy => by simp at hy; subst hy; exact fun c => hnot (c ▸ hu)⟩
          · intro x hx
            rcases List.mem_append.mp hx with hx | hx
            · exact hf x hx
            · simp at hx; subst hx; exact ⟨z0, z1⟩
          · rw [List.length_append]; simp; omega
        · exact ⟨fs, _, rfl, e.trans e3, hal, e3 a _ ha, e3 l _ hl, hn, hf, by omega⟩
      · rintro a σ' H' ⟨fs, v, rfl, e, hal, ha, hl, hn, hf, hfl⟩
        rw [List.length_map] at hfl
        refine ⟨_, rfl, l, fs, rfl, sq_of hl, fun ns' b hperm hsort hb => ?_⟩
        refine q ns' ⟨?_, fun x hx => hf x (hperm.mem_iff.mp hx), by rw [hperm.length_eq]; omega⟩ b _ (fresh_back e hb) (e.trans (Ex.new hb)) upd_same
        have hn' : ns'.Nodup := hperm.symm.nodup hn
        have := hsort.and hn'
        exact this.imp fun ⟨a, b⟩ => by omega
end
end My

set_option Elab.async false
set_option linter.all false
set_option maxRecDepth 100000
set_option maxHeartbeats 4000000
namespace My
open PySem PySem.Spec PyProof.Rows L2 Evl
theorem str_lt {w n m : Nat} (h : n < m) (hm : m < 2 ^ w) : (bitS w n).cps.toList < (bitS w m).cps.toList := by
  show (bitsL w n).toArray.toList < (bitsL w m).toArray.toList
  simpa using bits_lt w n m h hm
/-- a call whose answer is one of several -/
theorem q_call {σ : L2.St} {H : Hp} {i : Nat} {sp : Sp} {dvs vs : List V} {E : XK} {ta : TA} {D : Ends} {tz : TS} (h : EvA ta σ H vs) (hs : ∀ H1, Ex H H1 → sp (vs ++ dvs) H1 (fun x H2 => tz D (σ.set i (some x)) H2) E) : tSeq (tAsg (tCall sp dvs E ta) (gName i)) tz D σ H :=
  h H (Ex.refl H) _ fun H1 e1 => hs H1 e1
/-- [x] * n -/
theorem el_rep {σ : L2.St} {H : Hp} {ta tb : TE} {xs : List V} {k : Int} (ha : EvL ta σ H xs) (hb : ∀ H1, Ex H H1 → Ev tb σ H1 (.int k)) (h0 : 0 ≤ k) (h1 : xs.length * k.toNat ≤ 100000) (h2 : k < 2 ^ 63) : EvL (tOp rRep ta tb) σ H (List.replicate k.toNat xs).flatten := fun H1 e Q q =>
  ha H1 e _ fun p H2 hp e2 h2' => hb H2 (e.trans e2) H2 (Ex.refl H2) _ fun H3 e3 => ⟨p, k, xs, rfl, rfl, e3 p _ h2', by omega, h2, sz_of h1, fun l hl => q l _ (fresh_back (e2.trans e3) hl) ((e2.trans e3).trans (Ex.new hl)) upd_same⟩
/-- a call with a new list as its second argument, its answer a new list -/
theorem q_call2L {σ : L2.St} {H : Hp} {i : Nat} {x : V} {xs ys : List V} {sp : Sp} {E : XK} {ta tb : TE} {D : Ends} {tz : TS} (ha : Ev ta σ H x) (hb : EvL tb σ H xs) (hs : ∀ p H1, H1 p = some (.lst xs) → Ex H H1 → SpL sp [x, .ref p] H1 ys)
    (k : ∀ p H1, H p = none → Ex H H1 → H1 p = some (.lst ys) → tz D (σ.set i (some (.ref p))) H1) : tSeq (tAsg (tCall sp [] E (tCons ta (tCons tb tNil))) (gName i)) tz D σ H :=
  ha H (Ex.refl H) _ fun H1 e1 => hb H1 e1 _ fun p H2 hp e2 h2 => hs p H2 h2 (e1.trans e2) H2 (Ex.refl H2) _ (fun r H3 hr e3 h3 => k r H3 (fresh_back (e1.trans e2) hr) ((e1.trans e2).trans e3) h3) E
theorem ev_callL2 {σ : L2.St} {H : Hp} {x z : V} {xs : List V} {sp : Sp} {E : XK} {ta tb : TE} (ha : Ev ta σ H x) (hb : EvL tb σ H xs) (hs : ∀ p H1, H1 p = some (.lst xs) → Ex H H1 → SpV sp [x, .ref p] H1 z) : Ev (tCall sp [] E (tCons ta (tCons tb tNil))) σ H z := fun H0 e0 Q q =>
  ha H0 e0 _ fun H1 e1 => hb H1 (e0.trans e1) _ fun p H2 hp e2 h2 => hs p H2 h2 ((e0.trans e1).trans e2) H2 (Ex.refl H2) Q (fun H3 e3 => q H3 ((e1.trans e2).trans e3)) E
theorem ev_callL1 {σ : L2.St} {H : Hp} {y z : V} {xs : List V} {sp : Sp} {E : XK} {ta tb : TE} (ha : EvL ta σ H xs) (hb : ∀ H1, Ex H H1 → Ev tb σ H1 y) (hs : ∀ p H1, H1 p = some (.lst xs) → Ex H H1 → SpV sp [.ref p, y] H1 z) : Ev (tCall sp [] E (tCons ta (tCons tb tNil))) σ H z := fun H0 e0 Q q =>
  ha H0 e0 _ fun p H1 hp e1 h1 => hb H1 (e0.trans e1) H1 (Ex.refl H1) _ fun H2 e2 => hs p H2 (e2 p _ h1) ((e0.trans e1).trans e2) H2 (Ex.refl H2) Q (fun H3 e3 => q H3 ((e1.trans e2).trans e3)) E
theorem ea_consNL {σ : L2.St} {H : Hp} {te : TE} {xs : List V} (h : EvL te σ H xs) (Q : List V → Hp → Prop) (q : ∀ p H2, H p = none → Ex H H2 → H2 p = some (.lst xs) → Q [.ref p] H2) : tCons te tNil σ H Q := h H (Ex.refl H) _ fun p H2 hp e h2 => q p H2 hp e h2
section
variable {P : Program} {w : World} {K : PySem.W.Frag} {mg : Str → Option Value} {base : Heap}
theorem sl_digits {c : Int} {b : Addr} {ss : List Int} {H : Hp} (hS : SqL K H b (ss.map V.int)) (ok : OkSizes ss) : SpL (spDigits K) [.int c, .ref b] H ((digitsF c ss).map V.int) := fun H1 e Q q _ => ⟨c, b, ss, rfl, ex_l e hS, ok, fun p H2 hp e2 h2 => q p H2 hp e2 h2⟩
theorem ok7 : OkSizes S7 := by unfold OkSizes; decide
theorem ok34 : OkSizes S34 := by unfold OkSizes; decide +kernel
theorem pos_of {ss : List Int} (h : OkSizes ss) : ∀ s ∈ ss, 0 < s := fun s hs => (h.2 s hs).1
theorem top3_big : 2 ^ 2000 + big ≤ top3 := by decide +kernel
theorem big_top3 : big ≤ top3 := by decide +kernel
theorem top3_top2 : top3 ≤ top2 := by decide +kernel
abbrev s_law : Stmt := top 14
abbrev N_law : List Str := ["script", "row", "sizes", "many", "wide", "giant", "value", "drawn", "numbers", "strings", "n", "k", "told", "bits"]
theorem sc_law : FnScope N_law ["script"] (defScope s_law) := ⟨rfl, rfl, rfl, by decide +kernel, rfl, by decide +kernel, by decide +kernel⟩
def spLaw (K : PySem.W.Frag) : Sp := fun vs H Q _ => ∃ (a : Addr) (ns : List Int), vs = [.ref a] ∧ SqL K H a (ns.map V.int) ∧ ∀ H', Q (.bl true) H'
theorem ok_law (T : TT mg) (F : At K mg "law" s_law) (D_law_cell : Dn P w K mg base 1 "_law_cell" s_law_cell ["script", "k"] (spCellF K)) (D_law_digits : Dn P w K mg base 1 "_law_digits" s_law_digits ["cell", "sizes"] (spDigits K))
    (D_law_many : Dn P w K mg base 2 "_law_many" s_law_many ["row", "digits"] (spMany K)) (D_law_width : Dn P w K mg base 1 "_law_width" s_law_width ["many"] spLW) (D_law_widths_right : Dn P w K mg base 2 "_law_widths_right" s_law_widths_right ["many"] spWR)
    (D_number_bits : Dn P w K mg base 2 "number_bits" s_number_bits ["number", "options"] spNB) (D_number_bits_options_number : Kd P w K mg base 2 "number_bits" 0 ["options", "number"] (fun _ zs => zs.reverse) spNB) (D_law_power : Dn P w K mg base 1 "_law_power" s_law_power ["base", "often"] spPower)
    (D_width : Dn P w K mg base 1 "width" s_width ["options"] spWidth) (D_law_whole : Dn P w K mg base 1 "_law_whole" s_law_whole ["value"] spWhole) (D_law_big : Dn P w K mg base 1 "_law_big" s_law_big ["row", "used"] (spBig K))
    (D_law_numbers : Dn P w K mg base 1 "_law_numbers" s_law_numbers ["many", "drawn"] spNumbers) (D_law_value : Dn P w K mg base 1 "_law_value" s_law_value ["bits", "wide"] spValue) : Dn P w K mg base 3 "law" s_law ["script"] (spLaw K) := by
  refine dn_ok F sc_law (fun _ _ _ _ _ _ us hl => match us, hl with | [_], _ => rfl) (fun vs H Q E h => ?_) (fun f cdv A outer s H vs Q E hr h => ?_)
  · obtain ⟨a, ns, rfl, _⟩ := h; rfl
  · obtain ⟨a, ns, rfl, hS, q⟩ := h
    refine ⟨_, (pss_cons (ps_set (i := 1) sc_law.nd rfl (Or.inl rfl) (pe_dn D_law_digits hr (by decide) rfl (pa_cons (pe_dn D_law_cell hr (by decide) rfl (pa_cons (pv 0) (pa_cons pe_int pa_nil))) (pa_cons (pe_lst (pa_cons pe_int (pa_cons pe_int (pa_cons pe_int (pa_cons pe_int (pa_cons pe_int (pa_cons pe_int (pa_cons pe_int pa_nil)))))))) pa_nil))))
      (pss_cons (ps_set (i := 2) sc_law.nd rfl (Or.inr rfl) (pe_op op_cat (pe_op op_rep (pe_lst (pa_cons pe_int pa_nil)) pe_int) (pe_lst (pa_cons pe_int pa_nil))))
      (pss_cons (ps_set (i := 3) sc_law.nd rfl (Or.inr rfl) (pe_dn D_law_many hr (by decide) rfl (pa_cons (pv 1) (pa_cons (pe_dn D_law_digits hr (by decide) rfl (pa_cons (pe_dn D_law_cell hr (by decide) rfl (pa_cons (pv 0) (pa_cons pe_int pa_nil))) (pa_cons (pv 2) pa_nil))) pa_nil))))
      (pss_cons (ps_set (i := 4) sc_law.nd rfl (Or.inl rfl) (pe_dn D_law_width hr (by decide) rfl (pa_cons (pv 3) pa_nil)))
      (pss_cons (ps_if (PW.pt (pw_or (pt_not (pt_val (pe_dn D_law_widths_right hr (by decide) rfl (pa_cons (pv 3) pa_nil)))) (pw_or1 (pt_cmpR op_ne (pe_dn D_number_bits hr (by decide) rfl (pa_cons pe_int (pa_cons pe_int pa_nil))) pe_str (nomark _))))) (pss_one (ps_ret pe_bl)) pss_nil)
      (pss_cons (ps_set (i := 5) sc_law.nd rfl (Or.inl rfl) (pe_dn D_law_power hr (by decide) rfl (pa_cons pe_int (pa_cons (pe_ix ix_list (pv 1) pe_int (fun _ _ => rfl)) pa_nil))))
      (pss_cons (ps_for PassesOwn.never rfl (pi_list (pe_lst (pa_cons pe_int (pa_cons pe_int (pa_cons pe_int (pa_cons pe_int (pa_cons (pe_callB (call_max2 rfl) (by rfl) T.max (by decide +kernel) (pa_cons pe_int (pa_cons (pe_op op_sub (pv 5) pe_int) pa_nil))) (pa_cons (pv 5) (pa_cons (pe_op op_add (pv 5) pe_int) (pa_cons (pe_op op_add (pv 5) (pv 3)) pa_nil)))))))))) (pg_name (i := 6) sc_law.nd rfl (Or.inl rfl))
        (pss_cons (ps_set (i := 12) sc_law.nd rfl (Or.inl rfl) (pe_dn D_width hr (by decide) rfl (pa_cons (pv 6) pa_nil)))
          (pss_one (ps_if (PW.pt (pw_or (pt_not (pt_val (pe_dn D_law_whole hr (by decide) rfl (pa_cons (pv 12) pa_nil)))) (pw_or1 (pt_cmpR op_ne (pv 12) (pe_dn D_law_width hr (by decide) rfl (pa_cons (pv 6) pa_nil)) (nomark _))))) (pss_one (ps_ret pe_bl)) pss_nil))))
      (pss_cons (ps_setLc (i := 7) (own := [("k", 11)]) (g := gName 11) (tt := tYes) rfl sc_law.nd rfl rfl (sw_true rfl rfl rfl (by decide +kernel)) (pi_range1 (by rfl) T.range (pa_cons pe_int pa_nil)) (blkOk_by (own := [("k", 11)]) (N := N_law) (sc := defScope s_law) (by decide +kernel)) (fun _ _ _ _ _ => pg_name (i := 11) sc_law.nd rfl (Or.inl rfl)) (fun _ _ _ _ _ => pts_nil) (fun _ _ _ _ _ => (pe_op op_mod (pe_callTy call_int1 (by rfl) T.int_ (by decide +kernel) (pa_cons (pe_dn D_law_big hr (by decide) rfl (pa_cons (pe_dn D_law_digits hr (by decide) rfl (pa_cons (pe_dn D_law_cell hr (by decide) rfl (pa_cons (pv 0) (pa_cons (pe_op op_add pe_int (pv 11)) pa_nil))) (pa_cons (pv 2) pa_nil))) (pa_cons pe_int pa_nil))) pa_nil)) (pv 3))))
      (pss_cons (ps_set (i := 8) sc_law.nd rfl (Or.inl rfl) (pe_dn D_law_numbers hr (by decide) rfl (pa_cons (pv 3) (pa_cons (pv 7) pa_nil))))
      (pss_cons (ps_set (i := 9) sc_law.nd rfl (Or.inl rfl) (pe_lst pa_nil))
      (pss_cons (ps_for PassesOwn.never rfl (pi_list (pv 8)) (pg_name (i := 10) sc_law.nd rfl (Or.inl rfl))
        (pss_cons (ps_set (i := 13) sc_law.nd rfl (Or.inl rfl) (pe_dn D_number_bits hr (by decide) rfl (pa_cons (pv 10) (pa_cons (pv 3) pa_nil))))
          (pss_cons (ps_if (pt_cmpR op_ne (pe_dn D_law_value hr (by decide) rfl (pa_cons (pv 13) (pa_cons (pv 4) pa_nil))) (pv 10) (nomark _)) (pss_one (ps_ret pe_bl)) pss_nil)
          (pss_one (ps_expr (pe_bm PySem.F.plainAttrs_list PySem.F.slot_list_append PySem.F.type_list_append mt_append (pv 9) (pa_cons (pv 13) pa_nil)))))))
      (pss_cons (ps_for PassesOwn.never rfl (pi_range2 (by rfl) T.range (pa_cons pe_int (pa_cons (pe_callB call_len_seq (by rfl) T.len boot_len (pa_cons (pv 9) pa_nil)) pa_nil))) (pg_name (i := 11) sc_law.nd rfl (Or.inl rfl))
        (pss_one (ps_if (pt_not (pt_cmpR op_lt_str (pe_ix ix_list (pv 9) (pe_op op_sub (pv 11) pe_int) (fun _ _ => rfl)) (pe_ix ix_list (pv 9) (pv 11) (fun _ _ => rfl)) (nomark _))) (pss_one (ps_ret pe_bl)) pss_nil)))
      (pss_cons (ps_for PassesOwn.never rfl (pi_range1 (by rfl) T.range (pa_cons (pe_callB call_len_seq (by rfl) T.len boot_len (pa_cons (pv 8) pa_nil)) pa_nil)) (pg_name (i := 11) sc_law.nd rfl (Or.inl rfl))
        (pss_one (ps_if (pt_cmpR op_ne (pe_kd D_number_bits_options_number hr (by decide) rfl (pk_cons (pv 3) (pk_cons (pe_ix ix_list (pv 8) (pv 11) (fun _ _ => rfl)) pk_nil))) (pe_ix ix_list (pv 9) (pv 11) (fun _ _ => rfl)) (nomark _)) (pss_one (ps_ret pe_bl)) pss_nil)))
      (pss_one (ps_ret (pe_dn D_law_widths_right hr (by decide) rfl (pa_cons (pv 3) pa_nil))))))))))))))))), ?_⟩
    -- row
    refine q_call2L (ev_call (ea_cons (ev_var rfl) (ea_cons ev_c ea_nil)) (sv_cell hS (by decide) (by decide))) (el_lst (ea_cons ev_c (ea_cons ev_c (ea_cons ev_c (ea_cons ev_c (ea_cons ev_c (ea_cons ev_c (ea_cons ev_c ea_nil))))))) (by show 7 ≤ 100000; decide)) (fun p H1 hp e => sl_digits (ss := S7) (sq_of hp) ok7) fun rw_ H1 _ e1 hrow => ?_
    -- sizes
    have hrp : (List.replicate (Int.toNat 33) [V.int 1000]).flatten ++ [V.int 10] = S34.map V.int := by decide +kernel
    refine q_asgL (xs := S34.map V.int) (by
      rw [← hrp]
      exact el_cat (el_rep (el_lst (ea_cons ev_c ea_nil) (by show 1 ≤ 100000; decide)) (fun _ _ => ev_c) (by decide) (by decide) (by decide)) (el_lst (ea_cons ev_c ea_nil) (by show 1 ≤ 100000; decide)) (by decide)) fun sz H2 _ e2 hsz => ?_
    have e12 := e1.trans e2
    have hrow2 := e2 _ _ hrow
    have w7 : Within (digitsF (cellF ns 0) S7) S7 := digits_in _ _ (pos_of ok7)
    -- many
    have w34 : ∀ c, Within (digitsF c S34) S34 := fun c => digits_in _ _ (pos_of ok34)
    refine q_asg (ev_callL2 (ev_var rfl) (el_call (ea_cons (ev_call (ea_cons (ev_var rfl) (ea_cons ev_c ea_nil)) (sv_cell (ex_l e12 hS) (by decide) (by decide))) (ea_cons (ev_var rfl) ea_nil)) (sl_digits (sq_of hsz) ok34)) fun r Hr hr1 er => sv_many (sq_of (er _ _ hrow2)) (sq_of hr1) w7 (w34 (cellF ns 1))) fun H3 e3 => ?_
    have hmb := many_ok w7 (w34 (cellF ns 1))
    revert e3
    generalize manyF (digitsF (cellF ns 0) S7) (digitsF (cellF ns 1) S34) = m at hmb ⊢
    intro e3
    obtain ⟨m1, m2⟩ := hmb
    have b3 := big_top3
    have b4 := top3_top2
    have b5 := top3_big
    -- wide
    refine q_asg (ev_call (ea_cons (ev_var rfl) ea_nil) (sv_lw m1 (by omega))) fun H4 e4 => ?_
    refine q_when (et_or (et_not (et_B (ev_call (ea_cons (ev_var rfl) ea_nil) (sv_wr m1 (by omega))))) fun _ => et_test (ev_op (ev_call (ea_cons ev_c (ea_cons ev_c ea_nil)) (sv_nb (by decide) (by decide) (by decide +kernel))) ev_c (rv_ne rfl))) (fun hb H5 e5 => ?_) (fun hb H5 e5 => ?_)
    · exact absurd hb (by decide)
    have e15 : Ex H H5 := ((e12.trans e3).trans e4).trans e5
    have hrow5 := e5 _ _ (e4 _ _ (e3 _ _ hrow2))
    have hsz5 := e5 _ _ (e4 _ _ (e3 _ _ hsz))
    -- giant
    have l7 : (digitsF (cellF ns 0) S7).length = 7 := w7.len
    have g6 : 0 ≤ (digitsF (cellF ns 0) S7).getD 6 0 ∧ (digitsF (cellF ns 0) S7).getD 6 0 < 2001 := w7.get 6 (by decide)
    refine q_asg (ev_call (ea_cons ev_c (ea_cons (ev_op (ev_var rfl) ev_c (rv_ixL (K := K) (sq_of hrow5) (at_d (i := 6) (by omega)))) ea_nil)) (sv_power (by decide) (by decide) g6.1 (by omega))) fun H6 e6 => ?_
    have gp1 : (1 : Int) ≤ 2 ^ ((digitsF (cellF ns 0) S7).getD 6 0).toNat := by
      have := pow_mono 2 (by decide) (Nat.zero_le ((digitsF (cellF ns 0) S7).getD 6 0).toNat)
      simpa using this
    have gp2 : (2 : Int) ^ ((digitsF (cellF ns 0) S7).getD 6 0).toNat ≤ 2 ^ 2000 := pow_mono 2 (by decide) (by omega)
    revert e6
    generalize (2 : Int) ^ ((digitsF (cellF ns 0) S7).getD 6 0).toNat = gi at gp1 gp2 ⊢
    intro e6
    have hz8 : ∀ z ∈ [1, 2, 3, 4, mx (gi - 1), gi, gi + 1, gi + m], 1 ≤ z ∧ z ≤ top2 := by
      have : (4 : Int) ≤ top2 := by decide +kernel
      intro z hz
      unfold mx at hz
      simp only [List.mem_cons, List.not_mem_nil, or_false] at hz
      rcases hz with rfl | rfl | rfl | rfl | rfl | rfl | rfl | rfl
      · omega
      · omega
      · omega
      · omega
      · split <;> omega
      · omega
      · omega
      · omega
    refine q_forNLn (K := K) (xs := [1, 2, 3, 4, mx (gi - 1), gi, gi + 1, gi + m].map V.int)
      (el_lst (ea_cons ev_c (ea_cons ev_c (ea_cons ev_c (ea_cons ev_c (ea_cons (ev_max2 ev_c (ev_op (ev_var rfl) ev_c rv_I0)) (ea_cons (ev_var rfl) (ea_cons (ev_op (ev_var rfl) ev_c rv_I0) (ea_cons (ev_op (ev_var rfl) (ev_var rfl) rv_I0) ea_nil)))))))) (by show 8 ≤ 100000; decide))
      (fun p i σ' H' => ∃ v u : Option V, σ' = [some (.ref a), some (.ref rw_), some (.ref sz), some (.int m), some (.int (wd m : Nat)), some (.int gi), v, none, none, none, none, none, u, none] ∧ Ex H6 H' ∧ H' p = some (.lst ([1, 2, 3, 4, mx (gi - 1), gi, gi + 1, gi + m].map V.int)))
      (fun p H7 _ e7 hp => ⟨none, none, rfl, e7, hp⟩) (fun p i σ' H' _ ⟨_, _, _, _, hp⟩ => sq_of hp) ?_ ?_
    · rintro p i x σ' H' hx ⟨v, u, rfl, e, hp⟩
      obtain ⟨z, hz, rfl⟩ := get_map hx
      obtain ⟨z1, z2⟩ := hz8 z (List.mem_of_getElem? hz)
      refine q_asg (ev_call (ea_cons (ev_var rfl) ea_nil) sv_width) fun H7 e7 => ?_
      refine s_when (et_or (et_not (et_B (ev_call (ea_cons (ev_var rfl) ea_nil) sv_whole))) fun _ => et_test (ev_op (ev_var rfl) (ev_call (ea_cons (ev_var rfl) ea_nil) (sv_lw z1 z2)) (rv_ne rfl))) (fun hb2 H8 e8 => ?_) (fun hb2 H8 e8 => ?_)
      · simp at hb2
      · have e78 := e7.trans e8
        exact ⟨_, _, rfl, e.trans e78, e78 p _ hp⟩
    rintro p8 σ' H7 ⟨v, u, rfl, e7, _⟩
    have e17 : Ex H H7 := (e15.trans e6).trans e7
    have hsz7 := e7 _ _ (e6 _ _ hsz5)
    -- drawn
    let dF : Nat → Int := fun i => bigN (digitsF (cellF ns (2 + (i : Int))) S34) 34 % m
    have hdr : EvL (tLc (iRng1 (tCons (tC (.int 3)) tNil)) (gName 11) tYes (tOp (rI (fun _ j => 0 < j) fun i j => .int (i % j)) (tCB rInt1 (tCons (tCall (spBig K) [] E0 (tCons (tCall (spDigits K) [] E0 (tCons (tCall (spCellF K) [] E0 (tCons (tVar 0) (tCons (tOp (rI0 fun i j => .int (i + j)) (tC (.int 2)) (tVar 11)) tNil))) (tCons (tVar 2) tNil))) (tCons (tC (.int 34)) tNil))) tNil)) (tVar 3)) [11])
        [some (.ref a), some (.ref rw_), some (.ref sz), some (.int m), some (.int (wd m : Nat)), some (.int gi), v, none, none, none, none, none, u, none] H7 (given 3 (fun _ => true) fun i => .int (dF i)) := by
      refine el_lcR1 (fun _ => true) (fun i => .int (dF i)) (ea_cons ev_c ea_nil) ⟨by decide, by decide⟩ (fun _ => rfl) (fun _ _ _ _ => et_yes) (fun i H8 e8 hi _ => ?_)
      have hb34 := bigN_big (w34 (cellF ns (2 + (i : Int)))) (n := 34) (by decide)
      exact ev_op (ev_int (ev_callL1 (el_call (ea_cons (ev_call (ea_cons (ev_var rfl) (ea_cons (ev_op ev_c (ev_var rfl) rv_I0) ea_nil)) (sv_cell (k := 2 + (i : Int)) (ex_l (e17.trans e8) hS) (by omega) (by omega))) (ea_cons (ev_var rfl) ea_nil)) (sl_digits (sq_of (e8 _ _ hsz7)) ok34)) (fun _ _ => ev_c) fun r Hr hr1 er => sv_big (u := 34) (sq_of hr1) (w34 _).len (by decide) (by decide))) (ev_var rfl) (rv_I (show (0 : Int) < m by omega))
    refine q_asgL hdr fun dr H8 _ e8 hdr8 => ?_
    have egd : given 3 (fun _ => true) (fun i => V.int (dF i)) = [dF 0, dF 1, dF 2].map V.int := rfl
    rw [egd] at hdr8
    -- numbers
    refine q_call (ea_cons (ev_var rfl) (ea_cons (ev_var rfl) ea_nil)) fun H9 e9 => ⟨m, dr, [dF 0, dF 1, dF 2], rfl, e9 _ _ hdr8, m1, by show 3 ≤ 10; decide, fun d hd => ?_, fun nn okn nb H10 _ e10 hnb => ?_⟩
    · simp only [List.mem_cons, List.not_mem_nil, or_false] at hd
      rcases hd with rfl | rfl | rfl <;> exact ⟨Int.emod_nonneg _ (by omega), Int.emod_lt_of_pos _ (by omega)⟩
    obtain ⟨nsort, nin, nlen⟩ := okn
    -- strings
    refine q_asgL (el_lst ea_nil (by decide)) fun sl H11 nsl e11 hsl => ?_
    have hnb11 := e11 _ _ hnb
    have hwl : wd m ≤ 333 := wd_big m1 m2
    refine q_forLn (K := K) (ev_var rfl) (sq_of hnb11) (fun i σ' H' => ∃ x y : Option V, σ' = [some (.ref a), some (.ref rw_), some (.ref sz), some (.int m), some (.int (wd m : Nat)), some (.int gi), v, some (.ref dr), some (.ref nb), some (.ref sl), x, none, u, y] ∧ Ex H10 H' ∧ H' nb = some (.lst (nn.map V.int)) ∧ H' sl = some (.lst ((nn.take i).map fun n => V.str (bitS (wd m) n.natAbs))))
      (fun H12 e12 => ⟨none, none, rfl, e11.trans e12, e12 _ _ hnb11, e12 _ _ hsl⟩) (fun i σ' H' _ ⟨_, _, _, _, h, _⟩ => sq_of h) ?_ ?_
    · rintro i x σ' H' hx ⟨x1, y1, rfl, e, hn, hs⟩
      obtain ⟨z, hz, rfl⟩ := get_map hx
      obtain ⟨hi, hze⟩ := List.getElem?_eq_some_iff.mp hz
      obtain ⟨z0, z1⟩ := nin z (List.mem_of_getElem? hz)
      have hzw : z.natAbs < 2 ^ wd m := nat_lt_wd z0 z1
      refine q_asg (ev_call (ea_cons (ev_var rfl) (ea_cons (ev_var rfl) ea_nil)) (sv_nb z0 z1 m2)) fun H12 e12 => ?_
      refine q_when (et_test (ev_op (ev_call (ea_cons (ev_var rfl) (ea_cons (ev_var rfl) ea_nil)) (sv_value (l := bitsL (wd m) z.natAbs) (by rw [bitsL_len]) (by rw [bitsL_len]; omega) (bits_mem _ _))) (ev_var rfl) (rv_ne rfl))) (fun hb3 H13 e13 => ?_) (fun hb3 H13 e13 => ?_)
      · exfalso
        rw [valL_bits _ _ hzw] at hb3
        have : ((z.natAbs : Nat) : Int) = z := by omega
        rw [this] at hb3
        simp at hb3
      · refine s_app (e13 _ _ (e12 _ _ hs)) (ev_var rfl) (ev_var rfl) (by rw [List.length_map, List.length_take]; omega) fun H14 e14 => ?_
        have e1214 := (e12.trans e13).trans e14
        have hne : nb ≠ sl := by
          intro c
          rw [c] at hnb
          rw [fresh_back (Ex.refl H10) nsl] at hnb
          cases hnb
        refine ⟨_, _, rfl, Ex.mut (e.trans e1214) nsl, ?_, ?_⟩
        · rw [upd_ne hne]; exact e1214 _ _ hn
        · rw [List.take_succ_eq_append_getElem hi, List.map_append, hze]
          exact upd_same
    rintro σ' H12 ⟨x1, y1, rfl, e12', hn12, hs12⟩
    have hlm : (nn.map V.int).length = nn.length := List.length_map _
    rw [hlm, List.take_length] at hs12
    let ss : List V := nn.map fun n => V.str (bitS (wd m) n.natAbs)
    have hsl' : ss.length = nn.length := List.length_map _
    have atS : ∀ (i : Nat) (hi : i < nn.length), atI ss (i : Int) = some (.str (bitS (wd m) (nn[i]).natAbs)) := by
      intro i hi
      have e : ixN ss.length (i : Int) = some i := by
        unfold ixN
        rw [hsl', if_pos (by omega), if_pos (by omega)]
        simp
      unfold atI
      rw [e]
      show ss[i]? = _
      rw [List.getElem?_map, List.getElem?_eq_getElem hi]
      rfl
    have atN : ∀ (i : Nat) (hi : i < nn.length), atI (nn.map V.int) (i : Int) = some (.int nn[i]) := fun i hi => at_map (by omega) (by rw [Int.toNat_natCast]; exact List.getElem?_eq_getElem hi)
    -- order
    refine q_forR2 (ea_cons ev_c (ea_cons (ev_len (K := K) (ev_var rfl) (sq_of hs12)) ea_nil)) ⟨by decide, by decide, by omega, by show ((ss.length : Nat) : Int) ≤ 100000; omega⟩ (fun i σ' H' => ∃ kv : Option V, σ' = [some (.ref a), some (.ref rw_), some (.ref sz), some (.int m), some (.int (wd m : Nat)), some (.int gi), v, some (.ref dr), some (.ref nb), some (.ref sl), x1, kv, u, y1] ∧ Ex H12 H')
      (fun H13 e13 => ⟨none, rfl, e13⟩) ?_ ?_
    · rintro i σ' H' hi ⟨kv, rfl, e⟩
      have hi2 : i + 1 < nn.length := by
        have : (1 : Int) + (i : Int) < ((ss.length : Nat) : Int) := hi
        omega
      have ek : (1 : Int) + (i : Int) = ((i + 1 : Nat) : Int) := by omega
      have ek2 : (1 : Int) + (i : Int) - 1 = ((i : Nat) : Int) := by omega
      have hlt : (nn[i]).natAbs < (nn[i + 1]).natAbs := by
        have := (List.pairwise_iff_getElem.mp nsort) i (i + 1) (by omega) hi2 (by omega)
        have a := nin nn[i] (List.getElem_mem _)
        omega
      have hw2 : (nn[i + 1]).natAbs < 2 ^ wd m := by
        have a := nin nn[i + 1] (List.getElem_mem _)
        exact nat_lt_wd a.1 a.2
      have hsl13 := e _ _ hs12
      refine s_when (et_not (et_test (ev_op (x := .str (bitS (wd m) (nn[i]).natAbs)) (y := .str (bitS (wd m) (nn[i + 1]).natAbs)) (z := .bl (decide ((bitS (wd m) (nn[i]).natAbs).cps.toList < (bitS (wd m) (nn[i + 1]).natAbs).cps.toList))) (ev_op (ev_var rfl) (ev_op (ev_var rfl) ev_c rv_I0) (rv_ixL (K := K) (sq_of hsl13) (by rw [ek2]; exact atS i (by omega)))) (ev_op (ev_var rfl) (ev_var rfl) (rv_ixL (K := K) (sq_of hsl13) (by rw [ek]; exact atS (i + 1) hi2))) (fun H1 _ Q q => ⟨_, _, rfl, rfl, q H1 (Ex.refl H1)⟩)))) (fun hb4 H13 e13 => ?_) (fun hb4 H13 e13 => ?_)
      · exfalso
        rw [decide_eq_true (str_lt hlt hw2)] at hb4
        cases hb4
      · exact ⟨_, rfl, e.trans e13⟩
    rintro σ' H13 ⟨kv, rfl, e13⟩
    have hn13 := e13 _ _ hn12
    have hs13 := e13 _ _ hs12
    -- by name
    refine q_forR1 (ea_cons (ev_len (K := K) (ev_var rfl) (sq_of hn13)) ea_nil) ⟨by omega, by rw [hlm]; omega⟩ (fun i σ' H' => ∃ kv : Option V, σ' = [some (.ref a), some (.ref rw_), some (.ref sz), some (.int m), some (.int (wd m : Nat)), some (.int gi), v, some (.ref dr), some (.ref nb), some (.ref sl), x1, kv, u, y1] ∧ Ex H13 H')
      (fun H14 e14 => ⟨_, rfl, e14⟩) ?_ ?_
    · rintro i σ' H' hi ⟨kv, rfl, e⟩
      rw [hlm] at hi
      have hi2 : i < nn.length := by omega
      have a := nin nn[i] (List.getElem_mem _)
      refine s_when (et_test (ev_op (ev_callN ea_nil (ea_cons (ev_var rfl) (ea_cons (ev_op (ev_var rfl) (ev_var rfl) (rv_ixL (K := K) (sq_of (e _ _ hn13)) (atN i hi2))) ea_nil)) rfl rfl (sv_nb a.1 a.2 m2)) (ev_op (ev_var rfl) (ev_var rfl) (rv_ixL (K := K) (sq_of (e _ _ hs13)) (atS i hi2))) (rv_ne rfl))) (fun hb4 H14 e14 => ?_) (fun hb4 H14 e14 => ?_)
      · simp at hb4
      · exact ⟨_, rfl, e.trans e14⟩
    rintro σ' H14 ⟨kv', rfl, e14⟩
    exact s_ret (ev_call (ea_cons (ev_var rfl) ea_nil) (sv_wr m1 (by omega))) fun H15 _ => q H15
end
end My

set_option Elab.async false
set_option linter.all false
set_option maxRecDepth 100000
set_option maxHeartbeats 0
namespace My
open PySem PySem.Spec PyProof.Rows L2 Evl
def d_width : He.DefD := ⟨("width", none), "width", "width", defArgs s_width, defBody s_width, defScope s_width, [], []⟩
def d_number_bits : He.DefD := ⟨("number_bits", none), "number_bits", "number_bits", defArgs s_number_bits, defBody s_number_bits, defScope s_number_bits, [], []⟩
def d_law_whole : He.DefD := ⟨("_law_whole", none), "_law_whole", "_law_whole", defArgs s_law_whole, defBody s_law_whole, defScope s_law_whole, [], []⟩
def d_law_cell : He.DefD := ⟨("_law_cell", none), "_law_cell", "_law_cell", defArgs s_law_cell, defBody s_law_cell, defScope s_law_cell, [], []⟩
def d_law_digits : He.DefD := ⟨("_law_digits", none), "_law_digits", "_law_digits", defArgs s_law_digits, defBody s_law_digits, defScope s_law_digits, [], []⟩
def d_law_power : He.DefD := ⟨("_law_power", none), "_law_power", "_law_power", defArgs s_law_power, defBody s_law_power, defScope s_law_power, [], []⟩
def d_law_big : He.DefD := ⟨("_law_big", none), "_law_big", "_law_big", defArgs s_law_big, defBody s_law_big, defScope s_law_big, [], []⟩
def d_law_many : He.DefD := ⟨("_law_many", none), "_law_many", "_law_many", defArgs s_law_many, defBody s_law_many, defScope s_law_many, [], []⟩
def d_law_width : He.DefD := ⟨("_law_width", none), "_law_width", "_law_width", defArgs s_law_width, defBody s_law_width, defScope s_law_width, [], []⟩
def d_law_widths_right : He.DefD := ⟨("_law_widths_right", none), "_law_widths_right", "_law_widths_right", defArgs s_law_widths_right, defBody s_law_widths_right, defScope s_law_widths_right, [], []⟩
def d_law_numbers : He.DefD := ⟨("_law_numbers", none), "_law_numbers", "_law_numbers", defArgs s_law_numbers, defBody s_law_numbers, defScope s_law_numbers, [], []⟩
def d_law_value : He.DefD := ⟨("_law_value", none), "_law_value", "_law_value", defArgs s_law_value, defBody s_law_value, defScope s_law_value, [], []⟩
def d_law : He.DefD := ⟨("law", none), "law", "law", defArgs s_law, defBody s_law, defScope s_law, [], []⟩
def fn : List He.DefD := [d_width, d_number_bits, d_law_whole, d_law_cell, d_law_digits, d_law_power, d_law_big, d_law_many, d_law_width, d_law_widths_right, d_law_numbers, d_law_value, d_law]
def fa : List He.Fa := [.glo "width", .glo "number_bits", .glo "_law_whole", .glo "_law_cell", .glo "_law_digits", .glo "_law_power", .glo "_law_big", .glo "_law_many", .glo "_law_width", .glo "_law_widths_right", .glo "_law_numbers", .glo "_law_value", .glo "law", .free "len", .free "int", .free "bool", .free "str", .free "list", .free "range", .free "max", .free "isinstance", .free "sorted"]
abbrev R : PySem.W.OpenRow := PySem.W.OpenLaw.row PySem.Challenge.rw_unpressed_k15_numbers_in_bits
abbrev hk : PySem.W.Hook := He.hookD 4 fa fn
def ob (s : PySem.W.SharedT) : He.AlD := He.obsDG 4 fa fn (HandSHeadRun.getT s)
theorem ob_eq (s : PySem.W.SharedT) : ob s = hk.obs s.abs := He.obsDG_eq (HandSHeadRun.getT_eq s)
abbrev loose : List Str := ["width", "number_bits", "_law_whole", "_law_cell", "_law_digits", "_law_power", "_law_big", "_law_many", "_law_width", "_law_widths_right", "_law_numbers", "_law_value"]
theorem run (w : World) : HandSHeadRun.RunEq R (PySem.W.view R.prog [14]) hk ob 3000 loose w := by
  intro os
  kernel_rfl
theorem at_of {K : PySem.W.Frag} {mg : Str → Option Value} {h : Heap} (X : K.In h) (G : h.Ns mainGlobals mg) (c : He.SaysD fa fn K) (i : Nat) {x : Str} {st : Stmt} (h1 : fn[i]? = some ⟨(x, none), x, x, defArgs st, defBody st, defScope st, [], []⟩) (h2 : fa[i]? = some (.glo x)) : At K mg x st := by
  obtain ⟨fd, F⟩ := c.def_ i h1
  exact ⟨_, fd, F, He.glo_ok X G (c.fact i h2)⟩
theorem tt_of {K : PySem.W.Frag} {mg : Str → Option Value} {h : Heap} (X : K.In h) (G : h.Ns mainGlobals mg) (c : He.SaysD fa fn K) : TT mg := ⟨He.free_ok X G (c.fact 13 (f := .free "len") rfl), He.free_ok X G (c.fact 14 (f := .free "int") rfl), He.free_ok X G (c.fact 15 (f := .free "bool") rfl), He.free_ok X G (c.fact 16 (f := .free "str") rfl), He.free_ok X G (c.fact 17 (f := .free "list") rfl), He.free_ok X G (c.fact 18 (f := .free "range") rfl), He.free_ok X G (c.fact 19 (f := .free "max") rfl), He.free_ok X G (c.fact 20 (f := .free "isinstance") rfl), He.free_ok X G (c.fact 21 (f := .free "sorted") rfl)⟩

theorem facts {P : Program} {w : World} {K : PySem.W.Frag} {h : Heap} {mg : Str → Option Value} {f : Addr} (X : K.In h) (G : h.Ns mainGlobals mg) (hfa : mg ("law" : Str) = some (.ref f)) (c : He.SaysD fa fn K) :
    ∃ fd : FuncData, (∀ (s : Shared) (v : Value), BindsTo s fd ⟨[v], []⟩ [("script", v)]) ∧ ∀ base : Heap, K.In base → base.Ns mainGlobals mg → FnOk P w K mg base CX0 3 f fd ["script"] (spLaw K) := by
  have A_width : At K mg "width" s_width := at_of X G c 0 rfl rfl
  have A_number_bits : At K mg "number_bits" s_number_bits := at_of X G c 1 rfl rfl
  have A_law_whole : At K mg "_law_whole" s_law_whole := at_of X G c 2 rfl rfl
  have A_law_cell : At K mg "_law_cell" s_law_cell := at_of X G c 3 rfl rfl
  have A_law_digits : At K mg "_law_digits" s_law_digits := at_of X G c 4 rfl rfl
  have A_law_power : At K mg "_law_power" s_law_power := at_of X G c 5 rfl rfl
  have A_law_big : At K mg "_law_big" s_law_big := at_of X G c 6 rfl rfl
  have A_law_many : At K mg "_law_many" s_law_many := at_of X G c 7 rfl rfl
  have A_law_width : At K mg "_law_width" s_law_width := at_of X G c 8 rfl rfl
  have A_law_widths_right : At K mg "_law_widths_right" s_law_widths_right := at_of X G c 9 rfl rfl
  have A_law_numbers : At K mg "_law_numbers" s_law_numbers := at_of X G c 10 rfl rfl
  have A_law_value : At K mg "_law_value" s_law_value := at_of X G c 11 rfl rfl
  have A_law : At K mg "law" s_law := at_of X G c 12 rfl rfl
  have T : TT mg := tt_of X G c
  obtain ⟨f0, fd, F, hm⟩ := A_law.ex
  have e := hfa.symm.trans hm
  cases e
  have b := FunD.bindsA (ps := ["script"]) F fun _ _ _ _ _ _ us hl => match us, hl with | [_], _ => rfl
  refine ⟨fd, fun s v => b s [v] rfl, fun base _ _ => ?_⟩
  have D1 := ok_width (P := P) (w := w) (base := base) A_width
  have D2 := ok_number_bits A_number_bits D1
  have D3 := ok_law_whole (P := P) (w := w) (base := base) T A_law_whole
  have D4 := ok_law_cell (P := P) (w := w) (base := base) T A_law_cell
  have D5 := ok_law_digits (P := P) (w := w) (base := base) T A_law_digits
  have D6 := ok_law_power (P := P) (w := w) (base := base) T A_law_power
  have D7 := ok_law_big (P := P) (w := w) (base := base) T A_law_big
  have D8 := ok_law_many T A_law_many D6 D7
  have D9 := ok_law_width (P := P) (w := w) (base := base) T A_law_width
  have D10 := ok_law_widths_right A_law_widths_right D1 (kd_width D1) D3 D9
  have D11 := ok_law_value (P := P) (w := w) (base := base) T A_law_value
  have D12 := ok_law_numbers (P := P) (w := w) (base := base) T A_law_numbers
  have DL := ok_law T A_law D4 D5 D8 D9 D10 D2 (kd_nb D2) D6 D1 D3 D7 D12 D11
  obtain ⟨f1, fd1, F1, FO, hm1, _⟩ := DL.ex
  have e := hm.symm.trans hm1
  cases e
  have e2 : fd = fd1 := fd_one F F1
  rw [e2]
  exact FO
end My
open PySem PySem.W PySem.Calls PyProof.Rows
theorem PySem.Challenge.cw_unpressed_k15_numbers_in_bits_holds : PySem.Challenge.rw_unpressed_k15_numbers_in_bits.Holds := by
  w_on; o_law
  refine HandSHeadRun.head_any (r := OpenLaw.row PySem.Challenge.rw_unpressed_k15_numbers_in_bits) (q := view (OpenLaw.row PySem.Challenge.rw_unpressed_k15_numbers_in_bits).prog [14]) (H := My.hk) (ob := My.ob) (M := 3000) (loose := My.loose) (d := HandSHeadRun.topDef (OpenLaw.row PySem.Challenge.rw_unpressed_k15_numbers_in_bits).prog 14) (kwd := []) My.ob_eq
    (by kernel_rfl) (fun s => by kernel_rfl) My.run (by kernel_rfl) (by kernel_rfl) (by kernel_rfl) (by rfl) (by first | assumption | decide +kernel) (by decide +kernel) ⟨rfl, rfl, rfl, rfl, rfl, by decide +kernel⟩ ?hw ?hc
  case hw => w_witness2
  case hc =>
    refine L2.walk_ofE (l := PySem.Challenge.rw_unpressed_k15_numbers_in_bits) (n := 63) (k := 3) (x := "script") (CX := L2.CX0) rfl (by decide) (by kernel_rfl) ⟨rfl, by decide, by decide⟩ ?F (fun _ _ _ _ z => z)
    intro w mg fa h Y G hmg0
    obtain ⟨K, KX, c⟩ := Y
    have hmg : mg ("law" : PySem.Str) = some (.ref fa) := by
      have e : (HandSHeadRun.topDef (OpenLaw.row PySem.Challenge.rw_unpressed_k15_numbers_in_bits).prog 14).name = ("law" : PySem.Str) := by kernel_rfl
      rw [← e]
      exact hmg0
    obtain ⟨fd, hb, hF⟩ := My.facts (P := (PySem.Challenge.rw_unpressed_k15_numbers_in_bits).prog) (w := w) KX G hmg c
    exact ⟨K, fd, My.spLaw K, KX, hb, fun H a ns hl _ hS => ⟨a, ns, rfl, hS, fun _ => rfl⟩, hF⟩
