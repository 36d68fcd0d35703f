import PyProof.Rows.All
import Wide.All
import OpenK.AllK
import Wide.FinOn
import HandS.ForMost
import HandS.Evl
import KE.KStateDown
import HandS.Wide
import HandS.WideBits
import HandS.StrMore
import HandS.SortInts
import HandS.IsInst
import HandS.FStr
import HandS.Conv
import HandS.Defaults
import HandS.WordsExc
import HandS.Head0
import HandS.Head1
import HandS.Head2
import HandS.HeadEnd
import HandS.HeadHook1
import HandS.HeadHook2
import HandS.Gcd
import HandS.Head3
import Flt.RightSqrt
import HandS.Codes
import HandS.Dict
import PyProof.StrOps2
import HandS.Words
import HandS.Flt
import HandS.RaiseMore
import HandS.Iter
import HandS.HeadHook4
import PySem.Challenge.RW_unpressed_k66_power_products
set_option Elab.async false
set_option maxRecDepth 100000
set_option maxHeartbeats 4000000
namespace My
open PySem PySem.W PySem.Calls PyProof.Rows PySem.Builtin PySem.Builtin.Str PySem.Builtin.Int
/-- a number's digits to base two -/
def binT (n : Nat) : PySem.Str := ⟨((Nat.toDigits 2 n).map Char.toNat).toArray⟩
theorem fmt_b {a : Int} {t : Tok} (h0 : 0 ≤ a) (hL : (binT a.natAbs).length ≤ sizeLine) (u : Tok) : Meets («int.__format__» ⟨[.int a t, .str (⟨#[98]⟩ : PySem.Str) u], []⟩) (fun _ R s => ∀ t' k, R (.ok (.ret (.str (binT a.natAbs) t'))) { s with toks := k }) := by
  apply KPc.meets_of
  intro prog w A s Q E hq
  unfold Builtin.«int.__format__»
  refine wpAny_bind (wpAny_of_eq (a := (_, _)) rfl ?_)
  refine wpAny_bind (wpAny_of_eq (a := _) rfl ?_)
  kxf_if
  refine wpAny_bind (wpAny_typeNameOf (T := "str") (typeIs_str _ _ _) (by decide) fun _ => ?_)
  refine wpAny_bind (wpAny_of_eq (a := some _) rfl ?_)
  kxf_if
  kxf_if
  refine wpAny_bind (wpAny_typeNameOfCut_int ?_)
  (repeat kxf_if)
  refine (fun (e : _ = binT a.natAbs) => KXf.ret_text e (by rw [e]; exact hL) hq) ?e
  case e =>
    have hn : decide (a < 0) = false := decide_eq_false (by omega)
    have hD : Nat.toDigits 2 a.natAbs ≠ [] := Nat.toDigits_ne_nil
    rw [hn]
    unfold binT
    generalize Nat.toDigits 2 a.natAbs = D at hD ⊢
    conv => lhs; whnf
    have z : ∀ n : Nat, (-1 - (n : Int)).toNat = 0 := fun n => by omega
    simp [hD, Option.isNone, List.head?, z]
    trace_state
end My

set_option Elab.async false
set_option linter.all false
set_option maxRecDepth 100000
set_option maxHeartbeats 4000000
namespace My
open PySem PySem.Spec PyProof.Rows L2 Evl
/-! ### defs at their names -/
structure Dn (P : Program) (w : World) (K : PySem.W.Frag) (mg : Str → Option Value) (base : Heap) (k : Nat) (x : Str) (st : Stmt) (ps : List Str) (sp : Sp) : Prop where
  ex : ∃ (f : Addr) (fd : FuncData), FunD K x x (defArgs st) (defBody st) (defScope st) [] [] f fd ∧ FnOk P w K mg base CX0 k f fd ps sp ∧ mg x = some (.ref f) ∧ Binds K fd ps []
/-- the same for a call by keywords ks -/
structure Kd (P : Program) (w : World) (K : PySem.W.Frag) (mg : Str → Option Value) (base : Heap) (k : Nat) (x : Str) (n : Nat) (ks : List Str) (gV : List V → List V → List V) (sp : Sp) : Prop where
  ex : ∃ (f : Addr) (fd : FuncData) (ps : List Str) (g : List Value → List Value → List Value), FnOk P w K mg base CX0 k f fd ps sp ∧ mg x = some (.ref f) ∧ PySem.W.keepIn K (.ref f) = true ∧ KBn K fd ps n ks g gV
abbrev FnP (K : PySem.W.Frag) (x : Str) (st : Stmt) (f : Addr) (fd : FuncData) : Prop := FunD K x x (defArgs st) (defBody st) (defScope st) [] [] f fd
structure At (K : PySem.W.Frag) (mg : Str → Option Value) (x : Str) (st : Stmt) : Prop where
  ex : ∃ (f : Addr) (fd : FuncData), FnP K x st f fd ∧ mg x = some (.ref f)
section
variable {P : Program} {w : World} {K : PySem.W.Frag} {mg : Str → Option Value} {base : Heap} {x : Str} {st : Stmt} {N ps : List Str} {k : Nat} {sp : Sp}
theorem FunD.kbn {K : PySem.W.Frag} {x qual : Str} {params : Arguments} {body : List Stmt} {scope : Scope} {kws : List (Str × V)} {f : Addr} {fd : FuncData} {ps : List Str} (F : FunD K x qual params body scope [] kws f fd) (n : Nat) (ks : List Str) (g : List Value → List Value → List Value) (gV : List V → List V → List V)
    (h : ∀ (kV doc pm : Value) (an : Option Addr) (cdv ct : Value) (us ws : List Value), us.length = n → ws.length = ks.length → bindArgs (PySem.W.fnOf x qual params body scope .none kV doc pm an cdv ct) ⟨us, ks.zip ws⟩ = pure (ps.zip (g us ws)))
    (hr : ∀ {vs : List V} {us : List Value} {zs : List V} {ws : List Value}, Vals vs us → Vals zs ws → Vals (gV vs zs) (g us ws)) : KBn K fd ps n ks g gV := by
  obtain ⟨oc, od, dV, kV, doc, pm, an, cdv, ct, osl, rfl, lk, hcd, hD, hK⟩ := F.ex
  rcases hD with ⟨_, rfl⟩ | ⟨e, _⟩
  · exact ⟨fun s us ws _ l1 l2 => .of_eq (h kV doc pm an cdv ct us ws l1 l2), hr⟩
  · exact absurd rfl e
theorem dn_ok (F : At K mg x st) (S : FnScope N ps (defScope st))
    (hb : ∀ (kV doc pm : Value) (an : Option Addr) (cdv ct : Value) (us : List Value), us.length = ps.length → bindArgs (PySem.W.fnOf x x (defArgs st) (defBody st) (defScope st) .none kV doc pm an cdv ct) ⟨us, []⟩ = pure (ps.zip us))
    (len : ∀ vs H Q E, sp vs H Q E → vs.length = ps.length)
    (hbody : ∀ (f : Addr) (cdv : Value) (A : Around) (outer : List Env) (s : Shared) (H : Hp) (vs : List V) (Q : VK) (E : XK), Room k (A.deeper (envOfC x (defScope st) s.heap.objs.size f cdv)) → sp vs H Q E →
      ∃ t, PSs (cxOf CX0 P w K mg base N x (defScope st) f cdv A outer s H E).nox (defBody st) t ∧ t { nx := fun _ H' => Q .non H', rt := Q } (start N vs) H) : Dn P w K mg base (k + 1) x st ps sp := by
  obtain ⟨f, fd, F, g⟩ := F.ex
  refine ⟨f, fd, F, FunD.ok F S len (fun cdv A outer s H vs Q E hr h => ?_), g, F.bindsN hb⟩
  obtain ⟨t, h1, h2⟩ := hbody f cdv A outer s H vs Q E hr h
  exact ⟨t, PSs.nox h1, h2⟩
/-- one function object stands at one address -/
theorem fd_one {K : PySem.W.Frag} {x : Str} {st st' : Stmt} {f : Addr} {fd fd' : FuncData} (F : FnP K x st f fd) (F' : FnP K x st' f fd') : fd = fd' := by
  obtain ⟨oc, od, dV, kV, doc, pm, an, cdv, ct, osl, h1, lk, _⟩ := F.ex
  obtain ⟨oc2, od2, dV2, kV2, doc2, pm2, an2, cdv2, ct2, osl2, h2, lk2, _⟩ := F'.ex
  rw [lk] at lk2
  simp only [Option.some.injEq, Obj.mk.injEq, Data.func.injEq] at lk2
  exact lk2.2.2.1
/-- a call by keywords of a def that keeps its promise -/
theorem kd_of (D : Dn P w K mg base k x st ps sp) (n : Nat) (ks : List Str) (g : List Value → List Value → List Value) (gV : List V → List V → List V)
    (h : ∀ (kV doc pm : Value) (an : Option Addr) (cdv ct : Value) (us ws : List Value), us.length = n → ws.length = ks.length → bindArgs (PySem.W.fnOf x x (defArgs st) (defBody st) (defScope st) .none kV doc pm an cdv ct) ⟨us, ks.zip ws⟩ = pure (ps.zip (g us ws)))
    (hr : ∀ {vs : List V} {us : List Value} {zs : List V} {ws : List Value}, Vals vs us → Vals zs ws → Vals (gV vs zs) (g us ws)) : Kd P w K mg base k x n ks gV sp := by
  obtain ⟨f, fd, F, FO, g1, _⟩ := D.ex
  exact ⟨f, fd, ps, g, FO, g1, F.kp, FunD.kbn F n ks g gV h hr⟩
end
section
variable {X : Cx} {k j n : Nat} {x : Str} {p pos : Pos} {ps ks : List Str} {sp : Sp} {gV : List V → List V → List V} {e : Expr} {es : List Expr} {kws : List Keyword} {t tk : TA}
theorem pe_dn {st : Stmt} (D : Dn X.prog X.w X.K X.mg X.base k x st ps sp) (hr : Room j X.A) (hk : k ≤ j) (hg : Gl X x) (ha : PA X (e :: es) t) (hdb : (x == ("__debug__" : Str)) = false := by decide)
    (he : starEach (e :: es) X.env = (false, eval e X.env) :: starEach es X.env := by rfl) (hpl : (backTo pos (starEach es X.env)).any (·.1) = false := by rfl) : PE X (.Call (.Name x p) (e :: es) [] pos) (tCall sp [] E0 t) := by
  obtain ⟨f, fd, FD, F, hm, hb⟩ := D.ex
  exact pe_call F (hr.mono hk) hg hm FD.kp hb .nil pass0 ha (hdb := hdb) (he := he) (hpl := hpl)
theorem pe_kd (D : Kd X.prog X.w X.K X.mg X.base k x 0 ks gV sp) (hr : Room j X.A) (hk' : k ≤ j) (hg : Gl X x) (hkw : PK X kws tk)
    (hall : (backToKw pos (keywordEach kws X.env)).all (·.1.isSome) = true := by rfl) (hks : (backToKw pos (keywordEach kws X.env)).filterMap (·.1) = ks := by rfl)
    (hdb : (x == ("__debug__" : Str)) = false := by decide)
    (hpl : ((backTo pos (starEach [] X.env)).any (·.1) || (backToKw pos (keywordEach kws X.env)).any (·.1.isNone)) = false := by rfl) :
    PE X (.Call (.Name x p) [] kws pos) (tCallN 0 ks.length sp gV E0 tNil tk) := by
  obtain ⟨f, fd, ps, g, F, hm, hk, hb⟩ := D.ex
  refine ⟨fun pins s σ H Q I h => ?_⟩
  refine wpAny_Call_Name_kw (ld_glob I hg hm ?_ hdb)
  refine PySem.W.callWith_KW0 (h₀ := X.base) I.ok.mod.kin hk hall (thn (hkw.run pos pins s σ H _ I h) fun ws s2 ⟨zs, H2, I2, rz, l1, l2, q2⟩ => ⟨I2.kIn, ?_⟩) hpl
  rw [hks]
  exact run_fnN F (hr.mono hk') hb pass0 I2 .nil rz l1 l2 q2
/-- a built-in type by its name -/
theorem pe_tyn (T : String) {x : Str} {pos : Pos} (hg : Gl X x) (hm : X.mg x = none) (hv : bootBuiltins x = some (.type T)) (hn : x ≠ "__name__" := by decide) (hd : (x == ("__debug__" : Str)) = false := by decide) : PE X (.Name x pos) (tC (.ty T)) := pe_bltn hg hm hv (show RelV (.ty T) (.type T) from rfl) hn hd
/-- f'{x:b}' of a number not below 0 -/
def tFmtB (te : TE) : TE := fun σ H Q => te σ H fun x H1 => ∃ i : Int, x = .int i ∧ 0 ≤ i ∧ (binT i.natAbs).length ≤ sizeLine ∧ Q (.str (binT i.natAbs)) H1
theorem pe_fmtB {te : TE} {pos p1 p2 : Pos} {j : Nat} (he : PE X e te) : PE X (.FormattedValue e (-1) (some (.JoinedStr [.Constant (.str "b") j p1] p2)) pos) (tFmtB te) := by
  refine ⟨fun pins s σ H Q I h => ?_⟩
  refine wpAny_FormattedValue_spec (thn (he.run pins s σ H _ I h) fun v s1 hv => ?_)
  obtain ⟨x, H1, I1, r1, i, rfl, h0, hz, q⟩ := hv
  obtain ⟨t, rfl⟩ := r1
  have hs : PE X (.JoinedStr [.Constant (.str "b") j p1] p2) (tC (.str "b")) := pe_joined1 pe_str
  refine thn (hs.run pins s1 σ H1 (fun v H' => v = .str "b" ∧ H' = H1) I1 ⟨rfl, rfl⟩) fun v2 s2 hv2 => ?_
  obtain ⟨y, H2, I2, r2, rfl, rfl⟩ := hv2
  obtain ⟨t2, rfl⟩ := r2
  refine ⟨_, _, rfl, PySem.W.KXf.field_int (spec' := ⟨#[98]⟩) (by decide +kernel) rfl (by decide) (fun u => fmt_b h0 hz u) fun t' k => ?_⟩
  exact ⟨.str _, _, I2.tok _, ⟨_, rfl⟩, q⟩
end
/-! ### readings -/
section
variable {K : PySem.W.Frag} {σ : L2.St} {H : Hp} {ta tb te : TE} {x y z v : V} {D : Ends} {tu tz : TS}
def rInt1 : List V → Hp → VK → Prop := fun xs H Q => (∃ i, xs = [.int i] ∧ Q (.int i) H) ∨ ∃ k, xs = [.bl k] ∧ Q (.int (if k then 1 else 0)) H
theorem ev_int {i : Int} (h : Ev te σ H (.int i)) : Ev (tCB rInt1 (tCons te tNil)) σ H (.int i) := fun H1 e Q q => h H1 e _ fun H2 e2 => Or.inl ⟨i, rfl, q H2 e2⟩
theorem ev_intB {b : Bool} (h : Ev te σ H (.bl b)) : Ev (tCB rInt1 (tCons te tNil)) σ H (.int (if b then 1 else 0)) := fun H1 e Q q => h H1 e _ fun H2 e2 => Or.inr ⟨b, rfl, q H2 e2⟩
def rMin2 : List V → Hp → VK → Prop := fun xs H Q => ∃ i j, xs = [.int i, .int j] ∧ Q (.int (if j < i then j else i)) H
theorem ev_min2 {i j : Int} (ha : Ev ta σ H (.int i)) (hb : Ev tb σ H (.int j)) : Ev (tCB rMin2 (tCons ta (tCons tb tNil))) σ H (.int (if j < i then j else i)) := fun H1 e Q q =>
  ha H1 e _ fun H2 e2 => hb H2 (e.trans e2) _ fun H3 e3 => ⟨i, j, rfl, q H3 (e2.trans e3)⟩
theorem ev_isi {c : V} {t u : Value} {b : Bool} (ha : Ev ta σ H x) (hb : Ev tb σ H c) (k : ClsV c u) (ty : ∀ H1, Ex H H1 → TyX K H1 x t) (e : PySem.W.kitOne K t u = some b) : Ev (tCB (rIsi K) (tCons ta (tCons tb tNil))) σ H (.bl b) := fun H1 e1 Q q =>
  ha H1 e1 _ fun H2 e2 => hb H2 (e1.trans e2) _ fun H3 e3 => ⟨x, c, t, u, b, rfl, k, ty H3 ((e1.trans e2).trans e3), e, q H3 (e2.trans e3)⟩
theorem ev_lenStr {s : Str} (ha : Ev ta σ H (.str s)) (hs : s.length ≤ sizeLine) : Ev (tCB (fun xs H Q => ∃ z : Str, xs = [.str z] ∧ z.length ≤ sizeLine ∧ Q (.int z.length) H) (tCons ta tNil)) σ H (.int (s.length : Int)) := fun H1 e Q q =>
  ha H1 e _ fun H2 e2 => ⟨s, rfl, hs, q H2 e2⟩
theorem ev_bits {i : Int} (h : Ev te σ H (.int i)) : Ev (tBits te) σ H (.int (Builtin.Int.intBits i : Nat)) := fun H1 e Q q => h H1 e _ fun H2 e2 => ⟨i, rfl, q H2 e2⟩
theorem ev_fmtB {i : Int} (h : Ev te σ H (.int i)) (h0 : 0 ≤ i) (hz : (binT i.natAbs).length ≤ sizeLine) : Ev (tFmtB te) σ H (.str (binT i.natAbs)) := fun H1 e Q q => h H1 e _ fun H2 e2 => ⟨i, rfl, h0, hz, q H2 e2⟩
def rZfill : V → List V → Hp → VK → Prop := fun x xs H Q => ∃ (a : Str) (i : Int), x = .str a ∧ xs = [.int i] ∧ PadOk i = true ∧ Q (.str (Txt.zfill a i)) H
theorem ev_zfill {a : Str} {i : Int} (ha : Ev ta σ H (.str a)) (hb : Ev tb σ H (.int i)) (hp : PadOk i = true) : Ev (tBM K "str" rZfill ta (tCons tb tNil)) σ H (.str (Txt.zfill a i)) := fun H1 e Q q =>
  ha H1 e _ fun H2 e2 => ⟨rfl, hb H2 (e.trans e2) _ fun H3 e3 => ⟨a, i, rfl, rfl, hp, q H3 (e2.trans e3)⟩⟩
theorem ev_callN {n m : Nat} {sp : Sp} {gV : List V → List V → List V} {E : XK} {t tk : TA} {vs zs : List V} (h : EvA t σ H vs) (hk : EvA tk σ H zs) (h1 : vs.length = n) (h2 : zs.length = m) (hs : SpV sp (gV vs zs) H z) : Ev (tCallN n m sp gV E t tk) σ H z := fun H1 e Q q =>
  h H1 e _ fun H2 e2 => hk H2 (e.trans e2) _ fun H3 e3 => ⟨h1, h2, hs H3 ((e.trans e2).trans e3) Q (fun H4 e4 => q H4 ((e2.trans e3).trans e4)) E⟩
/-- two new lists one behind the other -/
theorem el_cat {xs ys : List V} (ha : EvL ta σ H xs) (hb : EvL tb σ H ys) (hz : xs.length + ys.length ≤ 100000) : EvL (tOp rCat ta tb) σ H (xs ++ ys) := fun H1 e Q q =>
  ha H1 e _ fun p H2 hp e2 h2 => hb H2 (e.trans e2) _ fun r H3 hr e3 h3 => ⟨p, r, xs, ys, rfl, rfl, e3 p _ h2, h3, sz_of hz, fun l hl => q l _ (fresh_back (e2.trans e3) hl) ((e2.trans e3).trans (Ex.new hl)) upd_same⟩
theorem el_catV {xs ys : List V} {b : Addr} (ha : EvL ta σ H xs) (hb : Ev tb σ H (.ref b)) (hy : H b = some (.lst ys)) (hz : xs.length + ys.length ≤ 100000) : EvL (tOp rCat ta tb) σ H (xs ++ ys) := fun H1 e Q q =>
  ha H1 e _ fun p H2 hp e2 h2 => hb H2 (e.trans e2) _ fun H3 e3 => ⟨p, b, xs, ys, rfl, rfl, e3 p _ h2, ((e.trans e2).trans e3) b _ hy, sz_of hz, fun l hl => q l _ (fresh_back (e2.trans e3) hl) ((e2.trans e3).trans (Ex.new hl)) upd_same⟩
end
end My

set_option Elab.async false
set_option linter.all false
set_option maxRecDepth 100000
set_option maxHeartbeats 4000000
namespace My
open PySem PySem.Spec PyProof.Rows L2 Evl
/-! ### a law's def, called where no text of an object is under way -/
structure FnG (P : Program) (w : World) (K : PySem.W.Frag) (mg : Str → Option Value) (base : Heap) (CX : CXT) (k : Nat) (f : Addr) (fd : FuncData) (ps : List Str) (sp : Sp) : Prop where
  run : ∀ (A : Around) (outer : List Env) (s : Shared) (H : Hp) (args : Args) (us : List Value) (vs : List V) (Q : VK) (E : XK), Room k A → A.guards = some [] → Env0 P w K mg base A outer s H → BindsTo s fd args (ps.zip us) → Vals vs us → sp vs H Q E →
    codeAny (model P w) A (.call (.ref f) args) (CR CX outer P w H s Q E) s
theorem guards_deeper (A : Around) (env : Env) : (A.deeper env).guards = A.guards := rfl
section
variable {P : Program} {w : World} {K : PySem.W.Frag} {mg : Str → Option Value} {base : Heap}
theorem fnG_of {k : Nat} {f : Addr} {fd : FuncData} {x : Str} {st : Stmt} {N ps : List Str} {sp : Sp} (F : FnP K x st f fd) (S : FnScope N ps (defScope st)) (len : ∀ vs H Q E, sp vs H Q E → vs.length = ps.length)
    (body : ∀ (cdv : Value) (A : Around) (outer : List Env) (s : Shared) (H : Hp) (vs : List V) (Q : VK) (E : XK), Room k (A.deeper (envOfC x (defScope st) s.heap.objs.size f cdv)) → A.guards = some [] → sp vs H Q E →
      ∃ t, PSs (cxOf CX0 P w K mg base N x (defScope st) f cdv A outer s H E).nox (defBody st) t ∧ t { nx := fun _ H' => Q .non H', rt := Q } (start N vs) H) : FnG P w K mg base CX0 (k + 1) f fd ps sp := by
  obtain ⟨oc, od, dV, kV, doc, pm, an, cdv, ct, osl, rfl, lk, hcd, _, _⟩ := F.ex
  constructor
  intro A outer t H args us vs Q E room gd env bind rel hsp
  have hlen := len vs H Q E hsp
  have inK : K.In t.heap := env.mod.kin.keeps fun b o z => (env.bs b o z).1
  have noLim : t.heap.NoLimit := env.mod.nolimit.keeps fun b o z => (env.bs b o z).1
  refine codeAny_call_function room.depth (inK _ _ lk) rfl S.co S.gen rfl (PySem.W.codeRec_of inK hcd) (bind _ _ _ _ ?_)
  refine wpAny_newFunctionEnv_cells S.kind (fun y hy => ?_) fun env' e1 t1 inCall => ?_
  · obtain ⟨n, v⟩ := y
    rcases S.par n (List.of_mem_zip hy).1 with z | z
    · exact Or.inl z
    · exact Or.inr ⟨z, PySem.W.cellsFrom_some _ _ _ (Or.inl z)⟩
  subst e1
  refine ⟨noLim.keeps inCall.toInCall.keep, codeAny_func ?_⟩
  obtain ⟨tt, ht0, hq⟩ := body cdv A outer t H vs Q E (room.deeper _) gd hsp
  have ht := PSs.nox ht0
  have J0 : Inv (cxOf CX0 P w K mg base N x (defScope st) f cdv A outer t H E) [] (start N vs) H t1 := inv_start S room.hd env hlen rel inCall
  refine wpAny_mono (ht.run [] t1 (start N vs) H _ J0 hq) (fun fl t2 hs => ?_) fun _ _ z => z
  cases fl with
  | ret u =>
    obtain ⟨v, σ', H', J, rv, q⟩ := hs
    exact ⟨v, H', J.os, J.bare, J.base, J.hok, rv, q⟩
  | next =>
    obtain ⟨σ', H', J, q⟩ := hs
    exact ⟨V.non, H', J.os, J.bare, J.base, J.hok, rfl, q⟩
  | brk =>
    obtain ⟨_, _, _, q⟩ := hs
    exact q.elim
  | cont =>
    obtain ⟨_, _, _, q⟩ := hs
    exact q.elim
/-- the law called on its script -/
theorem lawG_call {k : Nat} {fa a : Addr} {fd : FuncData} {x : Str} {mb : Str → Option Value} {sp : Sp} {t : Shared} {vs : List Value} {ns : List Int}
    (inK : K.In t.heap) (gN : t.heap.Ns mainGlobals mg) (bN : t.heap.Ns builtinsNs mb) (bI : ∀ y : Str, y ≠ "__name__" → mb y = bootBuiltins y) (noLim : t.heap.NoLimit) (gE : t.gens = #[])
    (hobj : t.heap.get? a = some { cls := .type "list", data := .seq vs.toArray }) (hi : IntsAre vs ns) (hl : ns.length ≤ sizeLine) (room : Room k callerA)
    (F : ∀ base : Heap, K.In base → base.Ns mainGlobals mg → FnG P w K mg base CX0 k fa fd [x] sp) (bind : ∀ (s : Shared) (u : Value), BindsTo s fd ⟨[u], []⟩ [(x, u)])
    (hsp : ∀ H : Hp, SqL K H a (ns.map V.int) → sp [.ref a] H (fun v _ => v = .bl true) fun _ _ _ => False) :
    codeAny (model P w) callerA (.call (.ref fa) ⟨[.ref a], []⟩) (fun r s' => r = .ok (.ret (.bool true)) ∧ OldK t.heap s'.heap ∧ s'.os = t.os ∧ AllBare s'.gens) t := by
  have go : ∀ H : Hp, (∀ b, H b ≠ none → b = a ∧ K.lookup a = none ∧ ∃ ob xs, H a = some (HO.frz ob (.lst xs))) → SqL K H a (ns.map V.int) → HOk P w H t.heap →
      codeAny (model P w) callerA (.call (.ref fa) ⟨[.ref a], []⟩) (fun r s' => r = .ok (.ret (.bool true)) ∧ OldK t.heap s'.heap ∧ s'.os = t.os ∧ AllBare s'.gens) t := by
    intro H hH hS hok
    have free : ∀ {b : Addr} {o : Obj} {es : Array DictEntry} {ep : Nat}, t.heap.get? b = some o → o.data = .dict es ep → H b = none := by
      intro b o es ep g d
      by_cases z : H b = none
      · exact z
      · obtain ⟨rfl, _⟩ := hH b z
        rw [hobj] at g
        cases g
        cases (show Data.seq vs.toArray _ = Data.dict es ep from d)
    have ns' : ∀ {b : Addr} {m : Str → Option Value}, t.heap.Ns b m → (hidT t.heap H).Ns b m := by
      rintro b m ⟨o, es, ep, g, d, r⟩
      exact ⟨o, es, ep, hidT_get g (free g d), d, r⟩
    have inB : K.In (hidT t.heap H) := by
      intro b o g
      refine hidT_get (inK b o g) ?_
      by_cases z : H b = none
      · exact z
      · obtain ⟨rfl, z2, _⟩ := hH b z
        rw [z2] at g
        cases g
    have md : Mod K mg (hidT t.heap H) := by
      obtain ⟨mc, h1, h2⟩ := noLim
      exact ⟨inB, ns' gN, ⟨mb, ns' bN, bI⟩, ⟨mc, ns' h1, h2⟩⟩
    have env : Env0 P w K mg (hidT t.heap H) callerA [] t H := ⟨rfl, md, fun b o g => of_hidT g, Nat.le_of_eq (hidT_size _ _), trivial, fun b hb => (List.not_mem_nil hb).elim, hok, .of_eq gE⟩
    have run := (F _ inB (ns' gN)).run callerA [] t H ⟨[.ref a], []⟩ [.ref a] [.ref a] _ _ room rfl env (bind t (.ref a)) (.cons rfl .nil) (hsp H hS)
    refine codeAny_mono run fun r s' h => ?_
    match r, h with
    | .ok (.ret u), h =>
      obtain ⟨v, H', os, bare, un, hok', rel, q⟩ := h
      cases (show v = V.bl true from q)
      obtain rfl : u = Value.bool true := rel
      refine ⟨rfl, OldK.of_keep fun b o g => ?_, os, bare⟩
      by_cases z : H b = none
      · exact un.keep b o g z (fun c => (List.not_mem_nil c).elim) (fun c => (List.not_mem_nil c).elim)
      · obtain ⟨rfl, _, ob, xs, z2⟩ := hH b z
        have z3 := un.frzs b ob _ z2
        obtain ⟨g1, _⟩ := hok b _ z2
        obtain ⟨g2, _⟩ := hok' b _ z3
        rw [g] at g1
        cases g1
        exact g2
  have rel := vals_ints hi
  have lenV := hi.length
  by_cases hk : K.lookup a = none
  · refine go (fun b => if b = a then some (.frz { cls := .type "list", data := .seq vs.toArray } (.lst (ns.map V.int))) else none) (fun b z => ?_) (Or.inl (Or.inr ⟨_, if_pos rfl⟩)) (fun b u z => ?_)
    · have e : b = a := by
        by_cases e : b = a
        · exact e
        · exact (z (if_neg e)).elim
      exact ⟨e, hk, _, _, if_pos rfl⟩
    · by_cases e : b = a
      · have z' := (if_pos e).symm.trans z
        cases z'
        subst e
        exact ⟨hobj, by rw [List.length_map]; exact hl, vs, _, rel, hobj⟩
      · have z' := (if_neg e).symm.trans z
        cases z'
  · obtain ⟨o, ho⟩ := Option.ne_none_iff_exists'.mp hk
    have g := inK a o ho
    rw [hobj] at g
    cases g
    refine go (fun _ => none) (fun b z => (z rfl).elim) (Or.inr ⟨_, vs.toArray, _, ho, rfl, rfl, rfl, by rw [List.size_toArray, lenV]; exact hl, by simpa using rel⟩) (fun b u z => ?_)
    cases (show (none : Option HO) = some u from z)
end
theorem walkG {l : PySem.W.OpenLaw} {n k : Nat} {q : Program} {loose : List Str} {XP : (Str → Option Value) → Heap → Prop} {YP : World → Heap → Prop} {d : DefRec} {x : Str}
    (hn : l.most = some n) (hn2 : n ≤ sizeLine) (hdf : d.params.defaults = []) (room : Room k callerA)
    (F : ∀ (w : World) (mg : Str → Option Value) (fa : Addr) (h : Heap), YP w h → h.Ns mainGlobals mg → mg d.name = some (.ref fa) →
      ∃ (K : PySem.W.Frag) (fd : FuncData) (sp : Sp), K.In h ∧ (∀ (s : Shared) (u : Value), BindsTo s fd ⟨[u], []⟩ [(x, u)]) ∧
        (∀ (H : Hp) (a : Addr) (ns : List Int), ns.length ≤ n → SqL K H a (ns.map V.int) → sp [.ref a] H (fun v _ => v = .bl true) fun _ _ _ => False) ∧
        ∀ base : Heap, K.In base → base.Ns mainGlobals mg → FnG l.prog w K mg base CX0 k fa fd [x] sp) :
    PySem.W.WalkO q loose XP YP l.row.toRowW d [] (fun f vs => PySem.call f vs) := by
  refine Att.attach_call hn hdf fun w s0 s1 mg mb fa o pm cd doc a vs ns G Y _ _ _ hmg hobj hints hlen hg => ?_
  obtain ⟨K, fd, sp, inK, hb, hsp, hF⟩ := F w mg fa _ Y G.T.g hmg
  exact lawG_call inK G.T.g G.T.b G.T.builtins G.T.nolimit hg hobj hints (Nat.le_trans hlen hn2) room hF hb fun H hS => hsp H a ns hlen hS
/-! ### repr of a list of ints -/
def reprInts (ns : List Int) : Str := (PyData.list (ns.map PyData.int)).shown
section
variable {X : Cx}
theorem reads_ints {h : Heap} : ∀ {ns : List Int} {its : List Value}, Vals (ns.map V.int) its → ReadsAll h its (ns.map PyData.int) []
  | [], _, .nil => .nil
  | n :: ns, _, .cons ⟨t, e⟩ r => by
    subst e
    exact .cons (.int n t) (reads_ints r)
theorem showable_ints : ∀ {ns : List Int}, (∀ n ∈ ns, n.natAbs.log2 < 1920) → PyData.showableAll (ns.map PyData.int) = true
  | [], _ => rfl
  | n :: ns, h => by
    show (decide (n.natAbs.log2 < 1920) && PyData.showableAll (ns.map PyData.int)) = true
    rw [decide_eq_true (h n List.mem_cons_self), showable_ints fun m hm => h m (List.mem_cons_of_mem _ hm)]
    rfl
def rReprL (K : PySem.W.Frag) : List V → Hp → VK → Prop := fun xs H Q => ∃ p ns, xs = [.ref p] ∧ H p = some (.lst (ns.map V.int)) ∧ (∀ n ∈ ns, n.natAbs.log2 < 1920) ∧ (reprInts ns).length ≤ sizeLine ∧ Q (.str (reprInts ns)) H
theorem depth_ints : ∀ ns : List Int, PyData.depthAll (ns.map PyData.int) ≤ 1
  | [] => by decide
  | n :: ns => by
    have h := depth_ints ns
    simp only [List.map_cons, PyData.depthAll, PyData.depth]
    omega
theorem noDict_ints : ∀ ns : List Int, PyData.hasDictAll (ns.map PyData.int) = false
  | [] => rfl
  | n :: ns => by
    have h := noDict_ints ns
    simp only [List.map_cons, PyData.hasDictAll, PyData.hasDict, h, Bool.or_self]
theorem cr_reprL {k : Nat} (hg : X.A.guards = some []) (hr : Room k X.A) : CallR X (.builtin "repr") (rReprL X.K) := by
  intro pins s σ H xs us Q I r h
  obtain ⟨p, ns, rfl, hp, hb, hz, q⟩ := h
  obtain ⟨u, rfl, ru⟩ := vals1 r
  cases (show u = Value.ref p from ru)
  obtain ⟨its, rv, pl, _⟩ := I.list (SqL.of hp)
  obtain ⟨o, n0, ho, hc, _, hd⟩ := pl
  have hd1 := depth_ints ns
  have hu := hr.units
  refine repr_of_reads' (d := .list (ns.map PyData.int)) (.list ho hc hd (by simpa using reads_ints rv)) (showable_ints hb) (fun c => by simp [PyData.hasDict, noDict_ints] at c) hg (by simp only [PyData.depth]; omega) (fun b o z => z) (fun h' u tk hk => ?_) hz
  exact ⟨.str _, H, I.kept hk, ⟨u, rfl⟩, q⟩
end
end My

set_option Elab.async false
set_option linter.all false
set_option maxRecDepth 100000
set_option maxHeartbeats 4000000
namespace My
open PySem PySem.Spec PyProof.Rows L2 Evl
section
variable {X : Cx}
theorem pip_of {op : Operator} {r : R2} (h : OpR X (inplaceOp op) r) : PIp X op r := fun pins s σ H x y v u Q I r1 r2 hh => h pins s σ H x y v u Q I r1 r2 hh
def rIsqrt : List V → Hp → VK → Prop := fun xs H Q => ∃ n : Nat, xs = [.int (n : Int)] ∧ n < 2 ^ 4000 ∧ Q (.int (Float64.isqrt n : Nat)) H
theorem cr_isqrt : CallR X (.builtin "math.isqrt") rIsqrt := by
  intro pins s σ H xs us Q I r h
  obtain ⟨n, rfl, hn, q⟩ := h
  obtain ⟨u, rfl, t, rfl⟩ := vals1 r
  have hl : ((n : Nat) : Int).toNat.log2 ≤ 3999 := by
    rw [Int.toNat_natCast]
    by_cases z : n = 0
    · subst z; decide
    · exact Nat.le_of_lt_succ ((Nat.log2_lt z).mpr hn)
  have g := PySem.W.mg_run_isqrt (n : Int) t (by omega) (by omega) (by omega)
  exact call_function_meets PySem.W.MGF.kind_isqrt PySem.W.MGF.plain_isqrt PySem.W.MGF.entry_isqrt (PySem.W.MGF.args_isqrt _) g.meets ⟨.int _, H, I.tok _, ⟨_, by rw [Int.toNat_natCast]⟩, q⟩
end
section
variable {K : PySem.W.Frag} {σ : L2.St} {H : Hp} {ta tb te : TE} {x y z v : V} {D : Ends} {tu tz : TS}
theorem ev_isqrt {n : Nat} (h : Ev te σ H (.int (n : Int))) (hn : n < 2 ^ 4000) : Ev (tCB rIsqrt (tCons te tNil)) σ H (.int (Float64.isqrt n : Nat)) := fun H1 e Q q => h H1 e _ fun H2 e2 => ⟨n, rfl, hn, q H2 e2⟩
theorem q_augR {i : Nat} {r : R2} {a : V} (hx : σ[i]? = some (some a)) (h : Ev te σ H y) (hr : RV r a y H z) (k : ∀ H1, Ex H H1 → tz D (σ.set i (some z)) H1) : tSeq (tAug i te r) tz D σ H :=
  ⟨a, hx, h H (Ex.refl H) _ fun H1 e => hr H1 e _ fun H2 e2 => k H2 (e.trans e2)⟩
theorem s_augR {i : Nat} {r : R2} {a : V} (hx : σ[i]? = some (some a)) (h : Ev te σ H y) (hr : RV r a y H z) (k : ∀ H1, Ex H H1 → D.nx (σ.set i (some z)) H1) : tAug i te r D σ H :=
  ⟨a, hx, h H (Ex.refl H) _ fun H1 e => hr H1 e _ fun H2 e2 => k H2 (e.trans e2)⟩
theorem ev_sum {ns : List Int} (h : EvL te σ H (ns.map V.int)) : Ev (tCB (rSum K) (tCons te tNil)) σ H (.int ns.sum) := fun H1 e Q q => h H1 e _ fun p H2 _ e2 h2 => ⟨p, ns, rfl, sq_of h2, q H2 e2⟩
theorem ev_reprL {ns : List Int} (h : EvL te σ H (ns.map V.int)) (hb : ∀ n ∈ ns, n.natAbs.log2 < 1920) (hz : (reprInts ns).length ≤ sizeLine) : Ev (tCB (rReprL K) (tCons te tNil)) σ H (.str (reprInts ns)) := fun H1 e Q q => h H1 e _ fun p H2 _ e2 h2 => ⟨p, ns, rfl, h2, hb, hz, q H2 e2⟩
theorem wmul {i j : Int} (hi : i.natAbs < 2 ^ 1000) (hj : j.natAbs < 2 ^ 1000) : CMulW i j := wide_mul hi hj (by decide) (by decide) (by decide)
end
end My

set_option Elab.async false
set_option linter.all false
set_option maxRecDepth 100000
set_option maxHeartbeats 4000000
namespace My
open PySem PySem.Spec PyProof.Rows L2 Evl
structure TT (mg : Str → Option Value) : Prop where
  len : mg "len" = none
  int_ : mg "int" = none
  bool_ : mg "bool" = none
  str_ : mg "str" = none
  list_ : mg "list" = none
  tuple_ : mg "tuple" = none
  range : mg "range" = none
  max : mg "max" = none
  min : mg "min" = none
  sum : mg "sum" = none
  isinstance : mg "isinstance" = none
  sorted : mg "sorted" = none
  repr : mg "repr" = none
  abs : mg "abs" = none
  enumerate : mg "enumerate" = none
/-- a loop over a text's signs -/
theorem for_str {x : Str} {g : TG} {tb : TS} {D : Ends} {σ : L2.St} {H : Hp} (Pv : Nat → L2.St → Hp → Prop) (h0 : Pv 0 σ H)
    (hs : ∀ i c σ H, x.cps[i]? = some c → Pv i σ H → g (.str ⟨#[c]⟩) σ H fun σ2 H2 => tb { D with nx := Pv (i + 1), ct := Pv (i + 1), bk := D.nx } σ2 H2) (hd : ∀ σ H, Pv x.cps.size σ H → D.nx σ H) :
    ∃ W : Nat → Nat → L2.St → Hp → Prop, (∃ m, W 0 m σ H) ∧ ∀ i m σ H, W i m σ H →
      ((Its x).stop i H ∧ D.nx σ H) ∨ ((Its x).go i H ∧ ∃ N : L2.St → Hp → Prop, (∀ σ' H', N σ' H' → ∃ m', m' < m ∧ W (i + 1) m' σ' H') ∧ ∀ y H', (Its x).yld i H y H' → g y σ H' fun σ2 H2 => tb { D with nx := N, ct := N, bk := D.nx } σ2 H2) := by
  refine ⟨fun i m σ H => m = x.cps.size - i ∧ i ≤ x.cps.size ∧ Pv i σ H, ⟨x.cps.size, by simp, Nat.zero_le _, h0⟩, ?_⟩
  rintro i m σ H ⟨rfl, hi, p⟩
  by_cases hlt : i < x.cps.size
  · refine .inr ⟨hlt, Pv (i + 1), fun σ' H' p' => ⟨x.cps.size - (i + 1), by omega, rfl, hlt, p'⟩, fun y H' z => ?_⟩
    obtain ⟨e, c, hc, rfl⟩ := z
    subst e
    exact hs i c σ _ hc p
  · have e : i = x.cps.size := by omega
    subst e
    exact .inl ⟨Nat.le_refl _, hd σ H p⟩
theorem q_forS {x : Str} {tl : TE} {g : TG} {D : Ends} {σ : L2.St} {H : Hp} {tu tz : TS} (h : Ev tl σ H (.str x)) (Pv : Nat → L2.St → Hp → Prop) (h0 : ∀ H1, Ex H H1 → Pv 0 σ H1)
    (hs : ∀ i c σ' H', x.cps[i]? = some c → Pv i σ' H' → g (.str ⟨#[c]⟩) σ' H' fun σ2 H2 => tu { D with nx := Pv (i + 1), ct := Pv (i + 1), bk := tz D } σ2 H2) (hd : ∀ σ' H', Pv x.cps.size σ' H' → tz D σ' H') : tSeq (tFor (iStr tl) g tu) tz D σ H :=
  h H (Ex.refl H) _ fun H1 e => ⟨x, rfl, for_str (D := { D with nx := tz D }) Pv (h0 H1 e) hs hd⟩
theorem vals_rev {zs : List V} {ws : List Value} (r : Vals zs ws) : Vals zs.reverse ws.reverse := by
  induction r with
  | nil => exact .nil
  | cons a r ih => rw [List.reverse_cons, List.reverse_cons]; exact ih.append (.cons a .nil)
/-! ### lists of ints in the heap -/
theorem get_map {ns : List Int} {i : Nat} {x : V} (h : (ns.map V.int)[i]? = some x) : ∃ z, ns[i]? = some z ∧ x = .int z := by
  rw [List.getElem?_map] at h
  cases e : ns[i]? with
  | none => rw [e] at h; cases h
  | some z => rw [e] at h; exact ⟨z, rfl, (Option.some.inj h).symm⟩
theorem drop_get {α : Type} {l : List α} {i : Nat} {x : α} (h : l[i]? = some x) : l.drop i = x :: l.drop (i + 1) := by
  obtain ⟨hi, e⟩ := List.getElem?_eq_some_iff.mp h
  rw [List.drop_eq_getElem_cons hi, e]
theorem at_map {ns : List Int} {i : Int} {z : Int} (h0 : 0 ≤ i) (h : ns[i.toNat]? = some z) : atI (ns.map V.int) i = some (.int z) := by
  have hi : i.toNat < ns.length := (List.getElem?_eq_some_iff.mp h).1
  have e : ixN (ns.map V.int).length i = some i.toNat := by
    unfold ixN
    rw [List.length_map, if_pos h0, if_pos (by omega)]
  unfold atI
  rw [e]
  show (ns.map V.int)[i.toNat]? = _
  rw [List.getElem?_map, h]
  rfl
/-! ### a cell -/
def seedF (ns : List Int) : Int := ns.foldl (fun s c => (s * 31 + c % 1000003) % 1000003) 17
def cellF (ns : List Int) (k : Int) : Int := if k < (ns.length : Int) then ns.getD k.toNat 0 else ((seedF ns + 7) * (k + 3) * 69621) % 2147483647
/-! ### digits -/
def digA : Int → List Int → List Int
  | _, [] => []
  | r, s :: ss => r % s :: digA (r / s) ss
def digB : Int → Int → List Int → List Int
  | _, _, [] => []
  | seed, k, s :: ss =>
    let seed' := (seed * 48271 + 974711 * k + 12345) % 2147483647
    let twice := (seed' * (seed' / 65537 + 3)) % 2147483629
    (twice / 19 % s) :: digB seed' (k + 1) ss
def digitsF (c : Int) (ss : List Int) : List Int := if 1000000000000000000 ≤ c then digA (c - 1000000000000000000) ss else digB (c % 2147483629) 0 ss
theorem digA_len : ∀ (r : Int) (ss : List Int), (digA r ss).length = ss.length
  | _, [] => rfl
  | r, s :: ss => by simp [digA, digA_len]
theorem digB_len : ∀ (r k : Int) (ss : List Int), (digB r k ss).length = ss.length
  | _, _, [] => rfl
  | r, k, s :: ss => by simp [digB, digB_len]
theorem digits_len (c : Int) (ss : List Int) : (digitsF c ss).length = ss.length := by
  unfold digitsF; split
  · exact digA_len _ _
  · exact digB_len _ _ _
/-- each digit is from 0 to its size, without it -/
def Within : List Int → List Int → Prop
  | [], [] => True
  | d :: ds, s :: ss => (0 ≤ d ∧ d < s) ∧ Within ds ss
  | _, _ => False
theorem digA_in : ∀ (r : Int) (ss : List Int), (∀ s ∈ ss, 0 < s) → Within (digA r ss) ss
  | _, [], _ => trivial
  | r, s :: ss, h => ⟨⟨Int.emod_nonneg _ (by have := h s List.mem_cons_self; omega), Int.emod_lt_of_pos _ (h s List.mem_cons_self)⟩, digA_in _ ss fun z hz => h z (List.mem_cons_of_mem _ hz)⟩
theorem digB_in : ∀ (r k : Int) (ss : List Int), (∀ s ∈ ss, 0 < s) → Within (digB r k ss) ss
  | _, _, [], _ => trivial
  | r, k, s :: ss, h => ⟨⟨Int.emod_nonneg _ (by have := h s List.mem_cons_self; omega), Int.emod_lt_of_pos _ (h s List.mem_cons_self)⟩, digB_in _ _ ss fun z hz => h z (List.mem_cons_of_mem _ hz)⟩
theorem digits_in (c : Int) (ss : List Int) (h : ∀ s ∈ ss, 0 < s) : Within (digitsF c ss) ss := by
  unfold digitsF; split
  · exact digA_in _ _ h
  · exact digB_in _ _ _ h
theorem et_yes {σ : L2.St} {H : Hp} : EvT tYes σ H true := fun H1 _ Q q => q H1 (Ex.refl H1)
theorem Within.get : ∀ {ds ss : List Int}, Within ds ss → ∀ i, i < ss.length → 0 ≤ ds.getD i 0 ∧ ds.getD i 0 < ss.getD i 0
  | [], [], _, i, h => absurd h (Nat.not_lt_zero i)
  | d :: ds, s :: ss, h, 0, _ => h.1
  | d :: ds, s :: ss, h, i + 1, hi => h.2.get i (by simpa using hi)
  | [], _ :: _, h, _, _ => h.elim
  | _ :: _, [], h, _, _ => h.elim
theorem Within.len : ∀ {ds ss : List Int}, Within ds ss → ds.length = ss.length
  | [], [], _ => rfl
  | _ :: _, _ :: _, h => congrArg Nat.succ h.2.len
  | [], _ :: _, h => h.elim
  | _ :: _, [], h => h.elim
theorem at_d {rs : List Int} {i : Nat} (h : i < rs.length) : atI (rs.map V.int) (i : Int) = some (.int (rs.getD i 0)) := at_map (by omega) (by
  rw [Int.toNat_natCast, List.getD_eq_getElem?_getD, List.getElem?_eq_getElem h]; rfl)
theorem pow_mono (b : Nat) (hb : 1 ≤ b) {i j : Nat} (h : i ≤ j) : ((b : Int)) ^ i ≤ (b : Int) ^ j := by
  have := Nat.pow_le_pow_right hb h
  have h2 : ((b ^ i : Nat) : Int) ≤ ((b ^ j : Nat) : Int) := Int.ofNat_le.mpr this
  rwa [Int.natCast_pow, Int.natCast_pow] at h2
theorem flat_ints (ns : List Int) : (ns.map V.int).all flatV = true := by
  rw [List.all_eq_true]
  intro x hx
  obtain ⟨z, _, rfl⟩ := List.mem_map.mp hx
  rfl
theorem in_ints (z : Int) (ns : List Int) : inV (.int z) (ns.map V.int) = decide (z ∈ ns) := by
  unfold inV
  induction ns with
  | nil => simp
  | cons a ns ih =>
    rw [List.map_cons, List.any_cons, ih]
    have : eqV (.int a) (.int z) = (a == z) := rfl
    rw [this]
    by_cases h : a = z
    · subst h; simp
    · have h2 : ¬ z = a := fun e => h e.symm
      simp [h, h2]
theorem given_map {α : Type} (xs : List α) (d : α) (g : α → V) (v : Nat → V) (h : ∀ i, i < xs.length → v i = g (xs.getD i d)) : given xs.length (fun _ => true) v = xs.map g := by
  unfold given
  rw [List.filter_eq_self.mpr (fun _ _ => rfl)]
  refine List.ext_getElem (by simp) fun i h1 h2 => ?_
  rw [List.getElem_map, List.getElem_map, List.getElem_range]
  rw [List.length_map] at h2
  rw [h i h2, List.getD_eq_getElem?_getD, List.getElem?_eq_getElem h2]
  rfl
/-- a call whose answer is one of several -/
theorem q_call {σ : L2.St} {H : Hp} {i : Nat} {sp : Sp} {dvs vs : List V} {E : XK} {ta : TA} {D : Ends} {tz : TS} (h : EvA ta σ H vs) (hs : ∀ H1, Ex H H1 → sp (vs ++ dvs) H1 (fun x H2 => tz D (σ.set i (some x)) H2) E) : tSeq (tAsg (tCall sp dvs E ta) (gName i)) tz D σ H :=
  h H (Ex.refl H) _ fun H1 e1 => hs H1 e1
/-- [x] * n -/
theorem el_rep {σ : L2.St} {H : Hp} {ta tb : TE} {xs : List V} {k : Int} (ha : EvL ta σ H xs) (hb : ∀ H1, Ex H H1 → Ev tb σ H1 (.int k)) (h0 : 0 ≤ k) (h1 : xs.length * k.toNat ≤ 100000) (h2 : k < 2 ^ 63) : EvL (tOp rRep ta tb) σ H (List.replicate k.toNat xs).flatten := fun H1 e Q q =>
  ha H1 e _ fun p H2 hp e2 h2' => hb H2 (e.trans e2) H2 (Ex.refl H2) _ fun H3 e3 => ⟨p, k, xs, rfl, rfl, e3 p _ h2', by omega, h2, sz_of h1, fun l hl => q l _ (fresh_back (e2.trans e3) hl) ((e2.trans e3).trans (Ex.new hl)) upd_same⟩
/-- a call with a new list as its second argument, its answer a new list -/
theorem q_call2L {σ : L2.St} {H : Hp} {i : Nat} {x : V} {xs ys : List V} {sp : Sp} {E : XK} {ta tb : TE} {D : Ends} {tz : TS} (ha : Ev ta σ H x) (hb : EvL tb σ H xs) (hs : ∀ p H1, H1 p = some (.lst xs) → Ex H H1 → SpL sp [x, .ref p] H1 ys)
    (k : ∀ p H1, H p = none → Ex H H1 → H1 p = some (.lst ys) → tz D (σ.set i (some (.ref p))) H1) : tSeq (tAsg (tCall sp [] E (tCons ta (tCons tb tNil))) (gName i)) tz D σ H :=
  ha H (Ex.refl H) _ fun H1 e1 => hb H1 e1 _ fun p H2 hp e2 h2 => hs p H2 h2 (e1.trans e2) H2 (Ex.refl H2) _ (fun r H3 hr e3 h3 => k r H3 (fresh_back (e1.trans e2) hr) ((e1.trans e2).trans e3) h3) E
theorem ev_callL2 {σ : L2.St} {H : Hp} {x z : V} {xs : List V} {sp : Sp} {E : XK} {ta tb : TE} (ha : Ev ta σ H x) (hb : EvL tb σ H xs) (hs : ∀ p H1, H1 p = some (.lst xs) → Ex H H1 → SpV sp [x, .ref p] H1 z) : Ev (tCall sp [] E (tCons ta (tCons tb tNil))) σ H z := fun H0 e0 Q q =>
  ha H0 e0 _ fun H1 e1 => hb H1 (e0.trans e1) _ fun p H2 hp e2 h2 => hs p H2 h2 ((e0.trans e1).trans e2) H2 (Ex.refl H2) Q (fun H3 e3 => q H3 ((e1.trans e2).trans e3)) E
theorem ev_callL1 {σ : L2.St} {H : Hp} {y z : V} {xs : List V} {sp : Sp} {E : XK} {ta tb : TE} (ha : EvL ta σ H xs) (hb : ∀ H1, Ex H H1 → Ev tb σ H1 y) (hs : ∀ p H1, H1 p = some (.lst xs) → Ex H H1 → SpV sp [.ref p, y] H1 z) : Ev (tCall sp [] E (tCons ta (tCons tb tNil))) σ H z := fun H0 e0 Q q =>
  ha H0 e0 _ fun p H1 hp e1 h1 => hb H1 (e0.trans e1) H1 (Ex.refl H1) _ fun H2 e2 => hs p H2 (e2 p _ h1) ((e0.trans e1).trans e2) H2 (Ex.refl H2) Q (fun H3 e3 => q H3 ((e1.trans e2).trans e3)) E
theorem ea_consNL {σ : L2.St} {H : Hp} {te : TE} {xs : List V} (h : EvL te σ H xs) (Q : List V → Hp → Prop) (q : ∀ p H2, H p = none → Ex H H2 → H2 p = some (.lst xs) → Q [.ref p] H2) : tCons te tNil σ H Q := h H (Ex.refl H) _ fun p H2 hp e h2 => q p H2 hp e h2
theorem kit_int_int {K : PySem.W.Frag} : PySem.W.kitOne K (.type "int") (.type "int") = some true := by rfl
theorem kit_int_bool {K : PySem.W.Frag} : PySem.W.kitOne K (.type "int") (.type "bool") = some false := by rfl
theorem kit_str_str {K : PySem.W.Frag} : PySem.W.kitOne K (.type "str") (.type "str") = some true := by rfl
def OkSizes (ss : List Int) : Prop := ss.length ≤ 10000 ∧ ∀ s ∈ ss, 0 < s ∧ s < 2 ^ 64
theorem divw {i j : Int} (h0 : 0 < j) (h : j < 2 ^ 64) : CDivW i j := wide_div (b := 64) h0 (by omega) (by decide) (by decide)
def spWhole : Sp := fun vs H Q _ => ∃ m : Int, vs = [.int m] ∧ RetV (.bl true) H Q
theorem sv_whole {m : Int} {H : Hp} : SpV spWhole [.int m] H (.bl true) := fun H1 _ Q q _ => ⟨m, rfl, q⟩
section
variable {K : PySem.W.Frag}
def spCellF (K : PySem.W.Frag) : Sp := fun vs H Q _ => ∃ (a : Addr) (ns : List Int) (k : Int), vs = [.ref a, .int k] ∧ SqL K H a (ns.map V.int) ∧ 0 ≤ k ∧ k ≤ 1000000 ∧ RetV (.int (cellF ns k)) H Q
theorem sv_cell {a : Addr} {ns : List Int} {k : Int} {H : Hp} (hS : SqL K H a (ns.map V.int)) (h0 : 0 ≤ k) (h1 : k ≤ 1000000) : SpV (spCellF K) [.ref a, .int k] H (.int (cellF ns k)) := fun H1 e Q q _ => ⟨a, ns, k, rfl, ex_l e hS, h0, h1, q⟩
def spDigits (K : PySem.W.Frag) : Sp := fun vs H Q _ => ∃ (c : Int) (b : Addr) (ss : List Int), vs = [.int c, .ref b] ∧ SqL K H b (ss.map V.int) ∧ OkSizes ss ∧ RetL ((digitsF c ss).map V.int) H Q
theorem sl_digits {c : Int} {b : Addr} {ss : List Int} {H : Hp} (hS : SqL K H b (ss.map V.int)) (ok : OkSizes ss) : SpL (spDigits K) [.int c, .ref b] H ((digitsF c ss).map V.int) := fun H1 e Q q _ => ⟨c, b, ss, rfl, ex_l e hS, ok, fun p H2 hp e2 h2 => q p H2 hp e2 h2⟩
theorem pos_of {ss : List Int} (h : OkSizes ss) : ∀ s ∈ ss, 0 < s := fun s hs => (h.2 s hs).1
end
end My

set_option Elab.async false
set_option linter.all false
set_option maxRecDepth 100000
set_option maxHeartbeats 4000000
namespace My
open PySem PySem.Spec PyProof.Rows L2 Evl
open SX (S S_len S_cat S_beq S_beq_eq S_inj S_tl)
/-! ### texts as lists of code points -/
def cutL {α : Type} (l : List α) (lo hi : Option Int) : List α := (l.drop (HT.sIx l.length 0 lo)).take (HT.sIx l.length l.length hi - HT.sIx l.length 0 lo)
theorem cutV_L (xs : List V) (lo hi : Option Int) : cutV xs lo hi = cutL xs lo hi := rfl
theorem cutS_S (l : List Nat) (lo hi : Option Int) : cutS (S l) lo hi = S (cutL l lo hi) := by
  unfold cutS cutL
  rw [S_len]
theorem sIx_pos {n d : Nat} {i : Int} (h : 0 ≤ i) : HT.sIx n d (some i) = min i.toNat n := by
  show (if i < 0 then _ else min i.toNat n) = _
  rw [if_neg (by omega)]
theorem cutL_to {α : Type} {l : List α} {i : Int} (h : 0 ≤ i) : cutL l none (some i) = l.take i.toNat := by
  unfold cutL
  rw [sIx_pos h, HT.sIx_none, List.drop_zero, Nat.sub_zero]
  rw [List.take_eq_take_iff]
  omega
theorem cutL_from {α : Type} {l : List α} {i : Int} (h : 0 ≤ i) : cutL l (some i) none = l.drop i.toNat := by
  unfold cutL
  rw [sIx_pos h, HT.sIx_none]
  by_cases c : i.toNat ≤ l.length
  · rw [Nat.min_eq_left c]
    apply List.take_of_length_le
    rw [List.length_drop]
    omega
  · rw [Nat.min_eq_right (by omega), List.drop_length, List.drop_eq_nil_of_le (by omega)]
    simp
theorem cutL_mid {α : Type} {l : List α} {i j : Int} (h : 0 ≤ i) (hj : 0 ≤ j) : cutL l (some i) (some j) = (l.drop i.toNat).take (j.toNat - i.toNat) := by
  unfold cutL
  rw [sIx_pos h, sIx_pos hj]
  by_cases c : i.toNat ≤ l.length
  · rw [Nat.min_eq_left c, List.take_eq_take_iff, List.length_drop]
    omega
  · have e : min i.toNat l.length = l.length := Nat.min_eq_right (by omega)
    rw [e, List.drop_length, List.drop_eq_nil_of_le (show l.length ≤ i.toNat by omega)]
    simp
theorem cutL_map {α β : Type} (f : α → β) (l : List α) (lo hi : Option Int) : cutL (l.map f) lo hi = (cutL l lo hi).map f := by
  unfold cutL
  rw [List.length_map, List.map_take, List.map_drop]
theorem cutL_len {α : Type} (l : List α) (lo hi : Option Int) : (cutL l lo hi).length ≤ l.length := by
  unfold cutL
  rw [List.length_take, List.length_drop]
  omega
section
variable {X : Cx}
/-- a text times an int -/
def rRepS : R2 := fun x y H Q => ∃ (l : List Nat) (k : Int), x = .str (S l) ∧ y = .int k ∧ 0 ≤ k ∧ k ≤ 1000000 ∧ l.length * k.toNat ≤ 1000000 ∧ Q (.str (S (List.replicate k.toNat l).flatten)) H
theorem fold_app (l : List Nat) : ∀ (n : Nat) (acc : Array Nat), List.foldl (· ++ ·) acc (List.replicate n l.toArray) = acc ++ (List.replicate n l).flatten.toArray
  | 0, acc => by simp
  | n + 1, acc => by
    rw [List.replicate_succ, List.foldl_cons, fold_app l n, List.replicate_succ, List.flatten_cons]
    simp
theorem op_repS : OpR X (binaryOp .Mult) rRepS := by
  intro pins s σ H x y v u Q I rx ry h
  obtain ⟨l, k, rfl, rfl, h0, h1, hz, q⟩ := h
  obtain ⟨t, rfl⟩ := rx
  obtain ⟨t2, rfl⟩ := ry
  have hl : (S l).length = l.length := S_len l
  have hr : (decide (k < -(2 ^ 63 : Int)) || decide (k ≥ 2 ^ 63)) = false := by
    rw [decide_eq_false (by omega), decide_eq_false (by omega)]; rfl
  refine PySem.P.mul_str hr (fun n1 n2 => ?_) (fun n1 n2 => ?_) ?_
  · rw [hl]
    have a : (l.length : Int) ≤ 1000000 := by
      have : l.length * 1 ≤ l.length * k.toNat := Nat.mul_le_mul_left _ (by omega)
      omega
    have b : (1000000 : Int) ≤ (2 ^ 63 - 1) / k := (Int.le_ediv_iff_mul_le (by omega)).mpr (by omega)
    omega
  · rw [hl]
    show decide (l.length * k.toNat > sizeLine) = false
    have : sizeLine = 16777216 := rfl
    exact decide_eq_false (by omega)
  · by_cases c : k < 1
    · rw [if_pos c]
      have k0 : k.toNat = 0 := by omega
      rw [k0] at q
      exact ⟨by decide, ⟨.str (S []), H, I.tok _, ⟨_, rfl⟩, q⟩⟩
    · rw [if_neg c]
      by_cases d : (k == 1 || (S l).length == 0) = true
      · rw [if_pos d]
        have e : (List.replicate k.toNat l).flatten = l := by
          rw [Bool.or_eq_true] at d
          rcases d with d | d
          · have : k = 1 := by simpa using d
            subst this
            simp
          · have : l = [] := by
              rw [hl] at d
              exact List.length_eq_zero_iff.mp (by simpa using d)
            subst this
            simp
        rw [e] at q
        exact ⟨.str (S l), H, I, ⟨_, rfl⟩, q⟩
      · rw [if_neg d]
        have e : (⟨(List.replicate k.toNat (S l).cps).foldl (· ++ ·) #[]⟩ : PySem.Str) = S (List.replicate k.toNat l).flatten := by
          show PySem.Str.mk _ = PySem.Str.mk _
          rw [fold_app l]
          simp
        rw [e]
        refine ⟨?_, ⟨.str _, H, I.tok _, ⟨_, rfl⟩, q⟩⟩
        rw [S_len, List.length_flatten]
        have : sizeLine = 16777216 := rfl
        have e2 : (List.map List.length (List.replicate k.toNat l)).sum = k.toNat * l.length := by simp
        rw [e2, Nat.mul_comm]
        omega
end
/-! ### readings -/
abbrev rAddS : R2 := fun x y H Q => ∃ i j, x = .str i ∧ y = .str j ∧ i.length + j.length ≤ sizeLine ∧ Q (.str (i ++ j)) H
abbrev rJoin (K : PySem.W.Frag) : V → List V → Hp → VK → Prop := fun x xs H Q => ∃ a p, ∃ ys : List Str, x = .str a ∧ xs = [.ref p] ∧ (SqL K H p (ys.map V.str) ∨ SqT K H p (ys.map V.str)) ∧
    (ys.map (·.length)).sum + ys.length * a.length ≤ 16777216 ∧ Q (.str (Txt.join a ys)) H
abbrev sV (ls : List (List Nat)) : List V := ls.map fun l => V.str (S l)
section
variable {K : PySem.W.Frag} {σ : L2.St} {H : Hp} {ta tb te : TE} {x y z v : V} {D : Ends} {tu tz : TS} {tl th : TO}
theorem rv_addS {a b : List Nat} (h : a.length + b.length ≤ 1000000) : RV rAddS (.str (S a)) (.str (S b)) H (.str (S (a ++ b))) := fun H1 _ Q q =>
  ⟨S a, S b, rfl, rfl, by rw [S_len, S_len]; have : sizeLine = 16777216 := rfl; omega, by rw [S_cat]; exact q H1 (Ex.refl H1)⟩
theorem rv_repS {l : List Nat} {k : Int} (h0 : 0 ≤ k) (h1 : k ≤ 1000000) (hz : l.length * k.toNat ≤ 1000000) : RV rRepS (.str (S l)) (.int k) H (.str (S (List.replicate k.toNat l).flatten)) := fun H1 _ Q q => ⟨l, k, rfl, rfl, h0, h1, hz, q H1 (Ex.refl H1)⟩
theorem rv_ixSS {l : List Nat} {i : Int} {c : Nat} (h : l.length ≤ 100000) (ha : atI l i = some c) : RV rIxS (.str (S l)) (.int i) H (.str (S [c])) := rv_ixS (by rw [S_len]; exact h) (by simpa using ha)
theorem ev_slS {l : List Nat} {lo hi : Option Int} (h : Ev te σ H (.str (S l))) (h1 : EvO tl σ H lo) (h2 : EvO th σ H hi) (hz : l.length ≤ 1000000) : Ev (tSl rSlS te tl th) σ H (.str (S (cutL l lo hi))) := fun H1 e Q q =>
  h H1 e _ fun H2 e2 => h1 H2 (e.trans e2) _ fun H3 e3 => h2 H3 ((e.trans e2).trans e3) _ fun H4 e4 => ⟨S l, rfl, by rw [S_len]; have : sizeLine = 16777216 := rfl; omega, by
    rw [cutS_S]
    exact q H4 ((e2.trans e3).trans e4)⟩
theorem ev_lenSS {l : List Nat} (ha : Ev ta σ H (.str (S l))) (hs : l.length ≤ 1000000) : Ev (tCB (fun xs H Q => ∃ z : Str, xs = [.str z] ∧ z.length ≤ sizeLine ∧ Q (.int z.length) H) (tCons ta tNil)) σ H (.int (l.length : Int)) := by
  have h := ev_lenStr (s := S l) ha (by rw [S_len]; have : sizeLine = 16777216 := rfl; omega)
  rw [S_len] at h
  exact h
theorem joinL_nil : ∀ ls : List (List Nat), TL.joinL [] ls = ls.flatten
  | [] => rfl
  | [p] => by simp [TL.joinL]
  | p :: q :: r => by
    rw [TL.joinL, joinL_nil (q :: r)]
    simp
theorem sum_le {ls : List (List Nat)} {n : Nat} (h : ∀ l ∈ ls, l.length ≤ n) : (ls.map List.length).sum ≤ ls.length * n := by
  induction ls with
  | nil => simp
  | cons l ls ih =>
    have a := ih fun m hm => h m (List.mem_cons_of_mem _ hm)
    have b := h l List.mem_cons_self
    rw [List.map_cons, List.sum_cons, List.length_cons, Nat.succ_mul]
    omega
/-- ''.join(xs), xs a new list -/
theorem ev_joinL {ls : List (List Nat)} (ho : Ev ta σ H (.str (S []))) (hb : EvL tb σ H (sV ls)) (hz : (ls.map List.length).sum ≤ 1000000) : Ev (tM1 (rJoin K) ta tb) σ H (.str (S ls.flatten)) := fun H1 e Q q =>
  ho H1 e _ fun H2 e2 => ⟨⟨_, rfl⟩, hb H2 (e.trans e2) _ fun p H3 hp e3 h3 => ⟨S [], p, ls.map S, rfl, rfl, Or.inl (by rw [List.map_map]; exact sq_of h3), by
    rw [SX.lens, List.length_map]
    have : (S ([] : List Nat)).length = 0 := rfl
    rw [this, Nat.mul_zero]
    exact Nat.le_trans hz (by decide), by
    rw [SX.join_S, joinL_nil]
    exact q H3 (e2.trans e3)⟩⟩
end
/-! ### a dict whose keys are texts that were met -/
def DW (H : Hp) (d : Addr) (ws : List (List Nat)) : Prop := ∃ kvs, H d = some (.dK kvs) ∧ kvs.length ≤ ws.length ∧ ∀ w, (valV kvs (Sum.inr (S w))).isSome = decide (w ∈ ws)
theorem DW.ex {H H' : Hp} {d : Addr} {ws : List (List Nat)} (h : DW H d ws) (e : Ex H H') : DW H' d ws := by
  obtain ⟨kvs, a, b, c⟩ := h
  exact ⟨kvs, e _ _ a, b, c⟩
theorem DW.upd {H : Hp} {d p : Addr} {o : HO} {ws : List (List Nat)} (h : DW H d ws) (hp : d ≠ p) : DW (upd H p o) d ws := by
  obtain ⟨kvs, a, b, c⟩ := h
  exact ⟨kvs, by rw [upd_ne hp]; exact a, b, c⟩
theorem kV_str (w : List Nat) : (kV (Sum.inr (S w)) : V) = .str (S w) := rfl
section
variable {K : PySem.W.Frag} {σ : L2.St} {H : Hp} {ta tb te : TE} {D : Ends} {tz : TS}
theorem q_dnew {i : Nat} (k : ∀ p H1, H p = none → DW H1 p [] → Ex H H1 → tz D (σ.set i (some (.ref p))) H1) : tSeq (tAsg tDNewK (gName i)) tz D σ H := fun p hp =>
  k p _ hp ⟨[], upd_same, Nat.le_refl _, fun w => by simp [valV_nil]⟩ (Ex.new hp)
theorem ev_din {d : Addr} {w : List Nat} {ws : List (List Nat)} (ha : Ev ta σ H (.str (S w))) (hb : Ev tb σ H (.ref d)) (h : DW H d ws) : Ev (tDIn ta tb) σ H (.bl (decide (w ∈ ws))) := fun H1 e Q q =>
  ha H1 e _ fun H2 e2 => hb H2 (e.trans e2) _ fun H3 e3 => by
    obtain ⟨kvs, h1, h2, h3⟩ := h.ex ((e.trans e2).trans e3)
    exact ⟨d, _, rfl, DGet.k (k := Sum.inr (S w)) h1, by rw [h3]; exact q H3 (e2.trans e3)⟩
theorem ev_dni {d : Addr} {w : List Nat} {ws : List (List Nat)} (ha : Ev ta σ H (.str (S w))) (hb : Ev tb σ H (.ref d)) (h : DW H d ws) : Ev (tDNotIn ta tb) σ H (.bl (!decide (w ∈ ws))) := fun H1 e Q q =>
  ha H1 e _ fun H2 e2 => hb H2 (e.trans e2) _ fun H3 e3 => by
    obtain ⟨kvs, h1, h2, h3⟩ := h.ex ((e.trans e2).trans e3)
    exact ⟨d, _, rfl, DGet.k (k := Sum.inr (S w)) h1, by rw [h3]; exact q H3 (e2.trans e3)⟩
theorem dw_put {d : Addr} {w : List Nat} {ws : List (List Nat)} {v : V} {H : Hp} {kvs : List (Key × V)} (h2 : kvs.length ≤ ws.length) (h3 : ∀ w, (valV kvs (Sum.inr (S w))).isSome = decide (w ∈ ws)) : DW (upd H d (.dK (putK kvs (Sum.inr (S w)) v))) d (w :: ws) := by
  refine ⟨_, upd_same, ?_, fun u => ?_⟩
  · have : (putK kvs (Sum.inr (S w)) v).length ≤ kvs.length + 1 := by
      unfold putK
      split
      · rw [List.length_map]; omega
      · rw [List.length_append]; simp
    rw [List.length_cons]
    omega
  · rw [valV_put]
    by_cases e : u = w
    · subst e; simp
    · have e2 : ¬ (Sum.inr (S u) : Key) = Sum.inr (S w) := fun c => e (S_inj (Sum.inr.inj c))
      rw [if_neg e2, h3]
      simp [e]
/-- d[w] = True; d is not of the first heap -/
theorem s_dput {d : Addr} {w : List Nat} {ws : List (List Nat)} {v : V} (hv : Ev te σ H v) (ho : Ev tb σ H (.ref d)) (hi : Ev ta σ H (.str (S w))) (h : DW H d ws) (hl : ws.length < 100000)
    (k : ∀ H1, Ex H H1 → ∀ kvs, DW (upd H1 d (.dK kvs)) d (w :: ws) → D.nx σ (upd H1 d (.dK kvs))) : sDPut tb ta te D σ H :=
  hv H (Ex.refl H) _ fun H1 e1 => ho H1 e1 _ fun H2 e2 => hi H2 (e1.trans e2) _ fun H3 e3 => by
    obtain ⟨kvs, h1, h2, h3⟩ := h.ex ((e1.trans e2).trans e3)
    exact ⟨d, _, rfl, DPut.k (k := Sum.inr (S w)) h1 (sz_lt (by omega)), k H3 ((e1.trans e2).trans e3) _ (dw_put h2 h3)⟩
theorem q_dput {d : Addr} {w : List Nat} {ws : List (List Nat)} {v : V} (hv : Ev te σ H v) (ho : Ev tb σ H (.ref d)) (hi : Ev ta σ H (.str (S w))) (h : DW H d ws) (hl : ws.length < 100000)
    (k : ∀ H1, Ex H H1 → ∀ kvs, DW (upd H1 d (.dK kvs)) d (w :: ws) → tz D σ (upd H1 d (.dK kvs))) : tSeq (sDPut tb ta te) tz D σ H := s_dput (D := { D with nx := tz D }) hv ho hi h hl k
end
end My

set_option Elab.async false
set_option linter.all false
set_option maxRecDepth 100000
set_option maxHeartbeats 4000000
namespace My
open PySem PySem.Spec PyProof.Rows L2 Evl
open SX (S S_len S_cat S_beq S_beq_eq S_inj S_tl)
/-! ### a <= b < c <= d -/
def tChain3 (r r' r'' : R2) (ta tb tc td : TE) : L2.TT := fun σ H Q => ta σ H fun x H1 => tb σ H1 fun y H2 => r x y H2 fun z H3 => ∃ k, z = .bl k ∧
  (if k = true then tc σ H3 fun w H4 => r' y w H4 fun z2 H5 => ∃ k2, z2 = .bl k2 ∧ (if k2 = true then td σ H5 fun u H6 => r'' w u H6 fun z3 H7 => ∃ k3, z3 = .bl k3 ∧ Q k3 H7 else Q false H5) else Q false H3)
section
variable {X : Cx} {a b c d : Expr} {ta tb tc td : TE} {pos : Pos}
theorem pt_chain3 {op op' op'' : CmpOp} {r r' r'' : R2} (ho : OpR X (compareOp op) r) (ho' : OpR X (compareOp op') r') (ho'' : OpR X (compareOp op'') r'') (ha : PE X a ta) (hb : PE X b tb) (hc : PE X c tc) (hd : PE X d td)
    (hm : lastMarks [op, op', op''] [b, c, d] = false := by with_unfolding_all rfl) : PT X (.Compare a [op, op', op''] [b, c, d] pos) (tChain3 r r' r'' ta tb tc td) := by
  refine ⟨fun pins s σ H Q I h => ?_⟩
  refine isTrue_chain (thn (ha.run pins s σ H _ I h) fun v s1 ⟨x, H1, I1, r1, q1⟩ => test_link (thn (hb.run pins s1 σ H1 _ I1 q1) fun u s2 ⟨y, H2, I2, r2, q2⟩ =>
    thn (ho pins s2 σ H2 x y v u _ I2 r1 r2 q2) fun e s3 ⟨z, H3, I3, r3, k, e0, q3⟩ => ?_)) hm
  subst e0
  cases r3
  refine wpAny_truthy_bool ?_
  cases k with
  | false => exact ite_ff ⟨H3, I3, q3⟩
  | true =>
    refine ite_tt (test_link (thn (hc.run pins s3 σ H3 _ I3 q3) fun w' s4 ⟨w, H4, I4, r4, q4⟩ => thn (ho' pins s4 σ H4 y w u w' _ I4 r2 r4 q4) fun d' s5 ⟨z2, H5, I5, r5, k2, e2, q5⟩ => ?_))
    subst e2
    cases r5
    refine wpAny_truthy_bool ?_
    cases k2 with
    | false => exact ite_ff ⟨H5, I5, q5⟩
    | true =>
      refine ite_tt (test_last (thn (hd.run pins s5 σ H5 _ I5 q5) fun u' s6 ⟨u2, H6, I6, r6, q6⟩ => thn (ho'' pins s6 σ H6 w u2 w' u' _ I6 r4 r6 q6) fun d2 s7 ⟨z3, H7, I7, r7, k3, e3, q7⟩ => ?_))
      subst e3
      cases r7
      exact wpAny_truthy_bool ⟨H7, I7, q7⟩
end
section
variable {K : PySem.W.Frag} {σ : L2.St} {H : Hp} {ta tb tc td te : TE} {x y w u z v : V} {D : Ends} {tu tz : TS}
theorem et_chain3 {r r' r'' : R2} {k1 k2 k3 : Bool} (ha : Ev ta σ H x) (hb : Ev tb σ H y) (hc : Ev tc σ H w) (hd : Ev td σ H u) (h1 : RV r x y H (.bl k1)) (h2 : RV r' y w H (.bl k2)) (h3 : RV r'' w u H (.bl k3)) :
    EvT (tChain3 r r' r'' ta tb tc td) σ H (k1 && (k2 && k3)) := fun H0 e0 Q q => ha H0 e0 _ fun H1 e1 => hb H1 (e0.trans e1) _ fun H2 e2 => h1 H2 ((e0.trans e1).trans e2) _ fun H3 e3 => ⟨k1, rfl, by
    cases k1 with
    | false => exact ite_ff (q H3 ((e1.trans e2).trans e3))
    | true =>
      refine ite_tt (hc H3 (((e0.trans e1).trans e2).trans e3) _ fun H4 e4 => h2 H4 ((((e0.trans e1).trans e2).trans e3).trans e4) _ fun H5 e5 => ⟨k2, rfl, ?_⟩)
      cases k2 with
      | false => exact ite_ff (q H5 ((((e1.trans e2).trans e3).trans e4).trans e5))
      | true => exact ite_tt (hd H5 (((((e0.trans e1).trans e2).trans e3).trans e4).trans e5) _ fun H6 e6 => h3 H6 ((((((e0.trans e1).trans e2).trans e3).trans e4).trans e5).trans e6) _ fun H7 e7 => ⟨k3, rfl, q H7 ((((((e1.trans e2).trans e3).trans e4).trans e5).trans e6).trans e7)⟩)⟩
/-! ### items -/
theorem at_get {α : Type} {l : List α} {i : Int} (h0 : 0 ≤ i) (h1 : i < (l.length : Int)) : ∃ c, atI l i = some c ∧ c ∈ l := by
  obtain ⟨j, rfl⟩ : ∃ j : Nat, i = (j : Int) := ⟨i.toNat, by omega⟩
  have hj : j < l.length := by omega
  exact ⟨l[j], atI_nat (List.getElem?_eq_getElem hj), List.getElem_mem hj⟩
theorem at_str {l : Str} {i : Int} {n : Nat} (hn : l.length = n) (hz : n ≤ 100000) (h0 : 0 ≤ i) (h1 : i < (n : Int)) : ∃ c, RV rIxS (.str l) (.int i) H (.str (S [c])) := by
  obtain ⟨c, hc, _⟩ := at_get (l := l.cps.toList) h0 (by
    have : l.cps.toList.length = l.length := by simp [Str.length]
    omega)
  exact ⟨c, rv_ixS (by omega) hc⟩
theorem at_S {l : List Nat} {i : Int} (hz : l.length ≤ 100000) (h0 : 0 ≤ i) (h1 : i < (l.length : Int)) : ∃ c, c ∈ l ∧ RV rIxS (.str (S l)) (.int i) H (.str (S [c])) := by
  obtain ⟨c, hc, hm⟩ := at_get (l := l) h0 h1
  exact ⟨c, hm, rv_ixSS hz hc⟩
/-- an item of a written list of numbers -/
theorem at_ints {ns : List Int} {i : Int} (P : Int → Prop) (hP : ∀ n ∈ ns, P n) (h0 : 0 ≤ i) (h1 : i < (ns.length : Int)) : ∃ z, atI (ns.map V.int) i = some (.int z) ∧ P z := by
  obtain ⟨c, hc, hm⟩ := at_get (l := ns.map V.int) h0 (by rw [List.length_map]; exact h1)
  obtain ⟨z, hz, rfl⟩ := List.mem_map.mp hm
  exact ⟨z, hc, hP z hz⟩
theorem flat_strs (ls : List (List Nat)) : (sV ls).all flatV = true := by
  rw [List.all_eq_true]
  intro v hv
  obtain ⟨l, _, rfl⟩ := List.mem_map.mp hv
  rfl
theorem el_call2 {xs ys : List V} {sp : Sp} {E : XK} (ha : Ev ta σ H x) (hb : EvL tb σ H xs) (hs : ∀ p H1, H1 p = some (.lst xs) → Ex H H1 → SpL sp [x, .ref p] H1 ys) : EvL (tCall sp [] E (tCons ta (tCons tb tNil))) σ H ys := fun H0 e0 Q q =>
  ha H0 e0 _ fun H1 e1 => hb H1 (e0.trans e1) _ fun p H2 hp e2 h2 => hs p H2 h2 ((e0.trans e1).trans e2) H2 (Ex.refl H2) Q (fun r H3 hr e3 h3 => q r H3 (fresh_back (e1.trans e2) hr) ((e1.trans e2).trans e3) h3) E
theorem ev_ixNew {xs : List V} {i : Int} (ha : EvL ta σ H xs) (hb : ∀ H1, Ex H H1 → Ev tb σ H1 (.int i)) (h : atI xs i = some v) : Ev (tOp (rIxL K) ta tb) σ H v := fun H1 e Q q =>
  ha H1 e _ fun p H2 hp e2 h2 => hb H2 (e.trans e2) H2 (Ex.refl H2) _ fun H3 e3 => ⟨p, xs, i, v, rfl, rfl, sq_of (e3 _ _ h2), h, q H3 (e2.trans e3)⟩
/-- ''.join(sorted(xs)), fewer than 64 -/
theorem ev_joinSorted {p : Addr} {ls : List (List Nat)} {Q : VK} (ho : Ev ta σ H (.str (S []))) (hb : Ev tb σ H (.ref p)) (h : SqL K H p (sV ls)) (h64 : ls.length < 64) (hz : (ls.map List.length).sum ≤ 1000000)
    (q : ∀ (l : List Nat) H2, l.length = (ls.map List.length).sum → Ex H H2 → Q (.str (S l)) H2) : (tM1 (rJoin K) ta (tCB (rSortedS K) (tCons tb tNil))) σ H Q :=
  ho H (Ex.refl H) _ fun H1 e1 => ⟨⟨_, rfl⟩, hb H1 e1 _ fun H2 e2 => ⟨p, ls.map S, rfl, by rw [List.map_map]; exact ex_l (e1.trans e2) h, by rw [List.length_map]; exact h64, fun ys d perm _ hd =>
    ⟨S [], d, ys, rfl, rfl, Or.inl (sq_of upd_same), by
      have e : (S ([] : List Nat)).length = 0 := rfl
      have s := (perm.map (·.length)).sum_nat
      rw [SX.lens] at s
      rw [e, Nat.mul_zero, s]
      exact Nat.le_trans hz (by decide), by
      have e3 : ys = (ys.map fun y => y.cps.toList).map S := by
        rw [List.map_map]
        exact (List.map_id ys).symm.trans (List.map_congr_left fun y _ => (S_tl y).symm)
      have s := (perm.map (·.length)).sum_nat
      rw [SX.lens] at s
      rw [e3] at s ⊢
      rw [SX.join_S, joinL_nil]
      refine q _ _ ?_ ((e1.trans e2).trans (Ex.new hd))
      rw [SX.lens] at s
      rw [List.length_flatten]
      exact s⟩⟩⟩
theorem s_forS {l : List Nat} {tl : TE} {g : TG} (h : Ev tl σ H (.str (S l))) (Pv : Nat → L2.St → Hp → Prop) (h0 : ∀ H1, Ex H H1 → Pv 0 σ H1)
    (hs : ∀ i c σ H, (S l).cps[i]? = some c → Pv i σ H → g (.str ⟨#[c]⟩) σ H fun σ2 H2 => tu { D with nx := Pv (i + 1), ct := Pv (i + 1), bk := D.nx } σ2 H2) (hd : ∀ σ H, Pv (S l).cps.size σ H → D.nx σ H) : tFor (iStr tl) g tu D σ H :=
  h H (Ex.refl H) _ fun H1 e => ⟨S l, rfl, for_str Pv (h0 H1 e) hs hd⟩
end
end My

set_option Elab.async false
set_option linter.all false
set_option maxRecDepth 100000
set_option maxHeartbeats 4000000
namespace My
open PySem PySem.Spec PyProof.Rows L2 Evl
open SX (S S_len S_cat S_beq S_beq_eq S_inj S_tl)
section
variable {K : PySem.W.Frag} {σ : L2.St} {H : Hp} {ta tb tc td te : TE} {x y w u z v : V} {D : Ends} {tu tz : TS} {t : L2.TT}
theorem el_lcR2 {ta : TA} {j : Nat} {vs : List Nat} {lo n : Int} (f : Nat → Bool) (v : Nat → V) (h : EvA ta σ H [.int lo, .int n]) (hn : -10000 ≤ lo ∧ lo ≤ 10000 ∧ n ≤ 10000 ∧ -10000 ≤ n) (hw : ∀ x, wipe ((wipe σ vs).set j (some x)) vs = wipe σ vs)
    (ht : ∀ (i : Nat) H1, Ex H H1 → i < (n - lo).toNat → EvT t ((wipe σ vs).set j (some (.int (lo + (i : Int))))) H1 (f i)) (he : ∀ (i : Nat) H1, Ex H H1 → i < (n - lo).toNat → f i = true → Ev te ((wipe σ vs).set j (some (.int (lo + (i : Int))))) H1 (v i)) :
    EvL (tLc (iRng2 ta) (gName j) t te vs) σ H (given (n - lo).toNat f v) := fun H0 e Q q => h H0 e _ fun H1 e1 => ⟨lo, n, rfl, ⟨by omega, by omega, by omega, by omega⟩, fun Dl hD =>
  lc_range (lo := lo) (n := (n - lo).toNat) (Cw H1 f v Dl) ⟨hD, Ex.new hD, upd_same⟩ (fun i H' hi p => ⟨hw _, cw_turn p (by omega) (ht i H1 (e.trans e1) hi) (fun hf => he i H1 (e.trans e1) hi hf)⟩) (fun H' p => q Dl H' (fresh_back e1 p.1) (e1.trans p.2.1) p.2.2)⟩
theorem lc_str {x : Str} {g : TG} {tt : L2.TT} {te : TE} {vs : List Nat} {σ : L2.St} {H1 : Hp} {D : Addr} {Qd : Hp → Prop} (Pv : Nat → Hp → Prop) (h0 : Pv 0 (upd H1 D (.lst [])))
    (hs : ∀ i c H, x.cps[i]? = some c → Pv i H → g (.str ⟨#[c]⟩) (wipe σ vs) H fun σ2 H2 => wipe σ2 vs = wipe σ vs ∧ tt σ2 H2 fun b H3 =>
      if b = true then te σ2 H3 fun y H4 => ∃ acc, H4 D = some (.lst acc) ∧ acc.length < sizeLine ∧ Pv (i + 1) (upd H4 D (.lst (acc ++ [y]))) else Pv (i + 1) H3) (hd : ∀ H, Pv x.cps.size H → Qd H) :
    ∃ W : Nat → Nat → Hp → Prop, (∃ m, W 0 m (upd H1 D (.lst []))) ∧ ∀ i m H, W i m H →
      ((Its x).stop i H ∧ Qd H) ∨ ((Its x).go i H ∧ ∃ Nx : Hp → Prop, (∀ H', Nx H' → ∃ m', m' < m ∧ W (i + 1) m' H') ∧ ∀ y H', (Its x).yld i H y H' → g y (wipe σ vs) H' fun σ2 H2 => wipe σ2 vs = wipe σ vs ∧ tt σ2 H2 fun b H3 =>
        if b = true then te σ2 H3 fun y H4 => ∃ acc, H4 D = some (.lst acc) ∧ acc.length < sizeLine ∧ Nx (upd H4 D (.lst (acc ++ [y]))) else Nx H3) := by
  refine ⟨fun i m H => m = x.cps.size - i ∧ i ≤ x.cps.size ∧ Pv i H, ⟨x.cps.size, by simp, Nat.zero_le _, h0⟩, ?_⟩
  rintro i m H ⟨rfl, hi, p⟩
  by_cases hlt : i < x.cps.size
  · refine .inr ⟨hlt, Pv (i + 1), fun H' p' => ⟨x.cps.size - (i + 1), by omega, rfl, hlt, p'⟩, fun y H' z => ?_⟩
    obtain ⟨e, c, hc, rfl⟩ := z
    subst e
    exact hs i c _ hc p
  · have e : i = x.cps.size := by omega
    subst e
    exact .inl ⟨Nat.le_refl _, hd H p⟩
theorem el_lcS {l : List Nat} {tl : TE} {j : Nat} {vs : List Nat} (f : Nat → Bool) (v : Nat → V) (h : Ev tl σ H (.str (S l))) (hz : l.length ≤ 40000) (hw : ∀ x, wipe ((wipe σ vs).set j (some x)) vs = wipe σ vs)
    (ht : ∀ (i c : Nat) H1, Ex H H1 → l[i]? = some c → EvT t ((wipe σ vs).set j (some (.str (S [c])))) H1 (f i)) (he : ∀ (i c : Nat) H1, Ex H H1 → l[i]? = some c → f i = true → Ev te ((wipe σ vs).set j (some (.str (S [c])))) H1 (v i)) :
    EvL (tLc (iStr tl) (gName j) t te vs) σ H (given l.length f v) := fun H0 e Q q => h H0 e _ fun H1 e1 => ⟨S l, rfl, fun Dl hD => by
  have hsz : (S l).cps.size = l.length := by simp
  refine lc_str (x := S l) (Cw H1 f v Dl) ⟨hD, Ex.new hD, upd_same⟩ (fun i c H' hi p => ?_) (fun H' p => ?_)
  · have hi2 : l[i]? = some c := by simpa using hi
    have := (List.getElem?_eq_some_iff.mp hi2).1
    exact ⟨hw _, cw_turn p (by omega) (ht i c H1 (e.trans e1) hi2) (fun hf => he i c H1 (e.trans e1) hi2 hf)⟩
  · rw [hsz] at p
    exact q Dl H' (fresh_back e1 p.1) (e1.trans p.2.1) p.2.2⟩
/-- the texts made, as a list -/
theorem given_S (g : Nat → List Nat) : ∀ n, given n (fun _ => true) (fun i => V.str (S (g i))) = sV ((List.range n).map g)
  | 0 => rfl
  | n + 1 => by
    rw [given_yes rfl, given_S g n, List.range_succ, List.map_append]
    show _ = List.map _ (List.map g (List.range n) ++ [g n])
    rw [List.map_append]
    rfl
theorem sum_range (g : Nat → List Nat) (b : Nat) (h : ∀ i, (g i).length ≤ b) (n : Nat) : (((List.range n).map g).map List.length).sum ≤ n * b := by
  have := sum_le (ls := (List.range n).map g) (n := b) fun l hl => by
    obtain ⟨i, _, rfl⟩ := List.mem_map.mp hl
    exact h i
  rw [List.length_map, List.length_range] at this
  exact this
theorem len_range (g : Nat → List Nat) (b : Nat) (h : ∀ i, (g i).length = b) : ∀ n, (((List.range n).map g).flatten).length = n * b
  | 0 => by simp
  | n + 1 => by
    rw [List.range_succ, List.map_append, List.flatten_append, List.length_append, len_range g b h n, Nat.succ_mul]
    simp [h]
theorem len_range_le (g : Nat → List Nat) (b : Nat) (h : ∀ i, (g i).length ≤ b) (n : Nat) : (((List.range n).map g).flatten).length ≤ n * b := by
  rw [List.length_flatten]
  exact sum_range g b h n
end
end My

set_option Elab.async false
set_option linter.all false
set_option maxRecDepth 100000
set_option maxHeartbeats 4000000
namespace My
open PySem PySem.Spec PyProof.Rows L2 Evl
/-! ### lists of natural numbers, min and max, repr of a number -/
abbrev nV (l : List Nat) : List V := l.map fun (n : Nat) => V.int (n : Int)
theorem at_nV {l : List Nat} {i : Nat} (h : i < l.length) : atI (nV l) (i : Int) = some (.int (l.getD i 0 : Nat)) := by
  have e : ixN (nV l).length (i : Int) = some i := by
    unfold ixN
    rw [List.length_map, if_pos (by omega), if_pos (by omega)]
    simp
  unfold atI
  rw [e]
  show (nV l)[i]? = _
  rw [List.getElem?_map, List.getElem?_eq_getElem h, List.getD_eq_getElem?_getD, List.getElem?_eq_getElem h]
  rfl
theorem nV_len (l : List Nat) : (nV l).length = l.length := List.length_map _
abbrev nI (l : List Nat) : List Int := l.map fun (n : Nat) => (n : Int)
theorem nV_nI (l : List Nat) : nV l = (nI l).map V.int := by rw [List.map_map]; rfl
theorem sum_nI (l : List Nat) : (nI l).sum = ((l.sum : Nat) : Int) := by
  induction l with
  | nil => rfl
  | cons a l ih =>
    show (a : Int) + (nI l).sum = _
    rw [List.sum_cons, ih, Int.natCast_add]
theorem nV_app (l : List Nat) (n : Nat) : nV l ++ [V.int (n : Int)] = nV (l ++ [n]) := by simp [nV]
theorem nV_set (l : List Nat) (i n : Nat) : (nV l).set i (V.int (n : Int)) = nV (l.set i n) := by simp [nV, List.map_set]
section
variable {K : PySem.W.Frag} {σ : L2.St} {H : Hp} {ta tb tc te : TE}
def mn3 (a b c : Int) : Int := if c < (if b < a then b else a) then c else (if b < a then b else a)
theorem num3 (a b c : Int) : nuMin3 (.int a) (.int b) (.int c) = some (.int (mn3 a b c)) := by
  have h : ∀ i j : Int, nuLt (.int i) (.int j) = some (decide (i < j)) := fun _ _ => rfl
  unfold nuMin3 nuMin2 mn3
  rw [h]
  by_cases h1 : b < a
  · simp only [h1, decide_true, Option.map_some, Option.bind_some, if_true, h]
    by_cases h2 : c < b <;> simp [h2]
  · simp only [h1, decide_false, Option.map_some, Option.bind_some, if_false, h]
    by_cases h2 : c < a <;> simp [h2, h]
theorem ev_min3 {a b c : Int} (ha : Ev ta σ H (.int a)) (hb : Ev tb σ H (.int b)) (hc : Ev tc σ H (.int c)) : Ev (tCB (rNuC3 nuMin3) (tCons ta (tCons tb (tCons tc tNil)))) σ H (.int (mn3 a b c)) := fun H1 e Q q =>
  ha H1 e _ fun H2 e2 => hb H2 (e.trans e2) _ fun H3 e3 => hc H3 ((e.trans e2).trans e3) _ fun H4 e4 => ⟨_, _, _, _, rfl, num3 a b c, q H4 ((e2.trans e3).trans e4)⟩
def rReprI : List V → Hp → VK → Prop := fun xs H Q => ∃ i : Int, xs = [.int i] ∧ i.natAbs.log2 < 1920 ∧ Q (.str (toString i)) H
theorem cr_reprI {X : Cx} : CallR X (.builtin "repr") rReprI := SkE.call_repr_int
theorem ev_reprI {i : Int} (h : Ev te σ H (.int i)) (hb : i.natAbs.log2 < 1920) : Ev (tCB rReprI (tCons te tNil)) σ H (.str (toString i)) := fun H1 e Q q => h H1 e _ fun H2 e2 => ⟨i, rfl, hb, q H2 e2⟩
/-- min and max of a new list of numbers, told by what they are -/
theorem ev_minL {ns : List Int} {v : Int} (h : EvL te σ H (ns.map V.int)) (hne : 0 < ns.length) (hv : ∀ m, m ∈ ns → (∀ y, y ∈ ns → m ≤ y) → m = v) : Ev (tCB (rMin K) (tCons te tNil)) σ H (.int v) := fun H1 e Q q => h H1 e _ fun p H2 _ e2 h2 =>
  ⟨p, ns, rfl, sq_of h2, hne, fun m h1 h3 => by rw [hv m h1 h3]; exact q H2 e2⟩
theorem ev_maxL {ns : List Int} {v : Int} (h : EvL te σ H (ns.map V.int)) (hne : 0 < ns.length) (hv : ∀ m, m ∈ ns → (∀ y, y ∈ ns → y ≤ m) → m = v) : Ev (tCB (rMax K) (tCons te tNil)) σ H (.int v) := fun H1 e Q q => h H1 e _ fun p H2 _ e2 h2 =>
  ⟨p, ns, rfl, sq_of h2, hne, fun m h1 h3 => by rw [hv m h1 h3]; exact q H2 e2⟩
/-- the sum of a list that stands -/
theorem ev_sumR {p : Addr} {ns : List Int} (h : Ev te σ H (.ref p)) (hS : SqL K H p (ns.map V.int)) : Ev (tCB (rSum K) (tCons te tNil)) σ H (.int ns.sum) := fun H1 e Q q => h H1 e _ fun H2 e2 => ⟨p, ns, rfl, ex_l (e.trans e2) hS, q H2 e2⟩
theorem min2_nat (a b : Nat) : (if (b : Int) < (a : Int) then (b : Int) else (a : Int)) = ((min a b : Nat) : Int) := by split <;> omega
end
end My

set_option Elab.async false
set_option linter.all false
set_option maxRecDepth 100000
set_option maxHeartbeats 4000000
namespace My
open PySem PySem.Spec PyProof.Rows L2 Evl
section
variable {K : PySem.W.Frag} {σ : L2.St} {H : Hp} {ta tb tc td te : TE} {x y w u z v : V} {D : Ends} {tu tz : TS}
theorem et_chain {r r' : R2} {k1 k2 : Bool} (ha : Ev ta σ H x) (hb : Ev tb σ H y) (hc : Ev tc σ H w) (h1 : RV r x y H (.bl k1)) (h2 : RV r' y w H (.bl k2)) : EvT (tTest (tChain r r' ta tb tc)) σ H (k1 && k2) :=
  et_test fun H0 e0 Q q => ha H0 e0 _ fun H1 e1 => hb H1 (e0.trans e1) _ fun H2 e2 => h1 H2 ((e0.trans e1).trans e2) _ fun H3 e3 => ⟨k1, rfl, by
    cases k1 with
    | false => exact ite_ff (q H3 ((e1.trans e2).trans e3))
    | true => exact ite_tt (hc H3 (((e0.trans e1).trans e2).trans e3) _ fun H4 e4 => h2 H4 ((((e0.trans e1).trans e2).trans e3).trans e4) _ fun H5 e5 => q H5 ((((e1.trans e2).trans e3).trans e4).trans e5))⟩
/-- list(range(n)) -/
theorem el_listRg {n : Int} (h : Ev te σ H (.int n)) (h0 : 0 ≤ n) (h1 : n ≤ 40000) : EvL (tLstRg (tRg1 te)) σ H (rgV 0 n) := fun H1 e Q q =>
  h H1 e _ fun H2 e2 => ⟨n, rfl, by unfold RgOk; omega, fun l hl => q l _ (fresh_back e2 hl) (e2.trans (Ex.new hl)) upd_same⟩
theorem rgV_nat (n : Nat) : rgV 0 (n : Int) = nV (List.range n) := by
  unfold rgV nV
  rw [Int.sub_zero, Int.toNat_natCast]
  refine List.map_congr_left fun i _ => ?_
  rw [Int.zero_add]
/-- a call with two new lists -/
theorem q_callLL {i : Nat} {xs ys : List V} {sp : Sp} {E : XK} (ha : EvL ta σ H xs) (hb : EvL tb σ H ys)
    (k : ∀ p q H1, Ex H H1 → H1 p = some (.lst xs) → H1 q = some (.lst ys) → sp [.ref p, .ref q] H1 (fun x H2 => tz D (σ.set i (some x)) H2) E) : tSeq (tAsg (tCall sp [] E (tCons ta (tCons tb tNil))) (gName i)) tz D σ H :=
  ha H (Ex.refl H) _ fun p H1 hp e1 h1 => hb H1 e1 _ fun q H2 hq e2 h2 => k p q H2 (e1.trans e2) (e2 _ _ h1) h2
theorem q_callVL {i : Nat} {ys : List V} {sp : Sp} {E : XK} (ha : Ev ta σ H x) (hb : EvL tb σ H ys)
    (k : ∀ q H1, Ex H H1 → H1 q = some (.lst ys) → sp [x, .ref q] H1 (fun x H2 => tz D (σ.set i (some x)) H2) E) : tSeq (tAsg (tCall sp [] E (tCons ta (tCons tb tNil))) (gName i)) tz D σ H :=
  ha H (Ex.refl H) _ fun H1 e1 => hb H1 e1 _ fun q H2 hq e2 h2 => k q H2 (e1.trans e2) h2
/-- a call whose second argument of four is a new list -/
theorem ev_call4L2 {xs : List V} {sp : Sp} {E : XK} (ha : Ev ta σ H x) (hb : EvL tb σ H xs) (hc : Ev tc σ H y) (hd : Ev td σ H w) (hs : ∀ p H1, H1 p = some (.lst xs) → Ex H H1 → SpV sp [x, .ref p, y, w] H1 z) :
    Ev (tCall sp [] E (tCons ta (tCons tb (tCons tc (tCons td tNil))))) σ H z := fun H0 e0 Q q =>
  ha H0 e0 _ fun H1 e1 => hb H1 (e0.trans e1) _ fun p H2 hp e2 h2 => hc H2 ((e0.trans e1).trans e2) _ fun H3 e3 => hd H3 (((e0.trans e1).trans e2).trans e3) _ fun H4 e4 =>
    hs p H4 (e4 _ _ (e3 _ _ h2)) ((((e0.trans e1).trans e2).trans e3).trans e4) H4 (Ex.refl H4) Q (fun H5 e5 => q H5 ((((e1.trans e2).trans e3).trans e4).trans e5)) E
theorem q_callLV {i : Nat} {xs : List V} {sp : Sp} {E : XK} (ha : EvL ta σ H xs) (hb : Ev tb σ H y)
    (k : ∀ q H1, Ex H H1 → H1 q = some (.lst xs) → sp [.ref q, y] H1 (fun x H2 => tz D (σ.set i (some x)) H2) E) : tSeq (tAsg (tCall sp [] E (tCons ta (tCons tb tNil))) (gName i)) tz D σ H :=
  ha H (Ex.refl H) _ fun q H1 hq e1 h1 => hb H1 e1 _ fun H2 e2 => k q H2 (e1.trans e2) (e2 _ _ h1)
/-- over range(n), n may be below 0 -/
theorem el_lcRz {ta : TA} {t : L2.TT} {j : Nat} {vs : List Nat} {n : Int} (f : Nat → Bool) (v : Nat → V) (h : EvA ta σ H [.int n]) (hn : -40000 ≤ n ∧ n ≤ 40000) (hw : ∀ x, wipe ((wipe σ vs).set j (some x)) vs = wipe σ vs)
    (ht : ∀ (i : Nat) H1, Ex H H1 → (i : Int) < n → EvT t ((wipe σ vs).set j (some (.int (i : Int)))) H1 (f i)) (he : ∀ (i : Nat) H1, Ex H H1 → (i : Int) < n → f i = true → Ev te ((wipe σ vs).set j (some (.int (i : Int)))) H1 (v i)) :
    EvL (tLc (iRng1 ta) (gName j) t te vs) σ H (given n.toNat f v) := fun H0 e Q q => h H0 e _ fun H1 e1 => ⟨n, rfl, by omega, by omega, fun Dl hD =>
  lc_range (lo := 0) (n := n.toNat) (Cw H1 f v Dl) ⟨hD, Ex.new hD, upd_same⟩ (fun i H' hi p => by
    have e0 : (0 : Int) + (i : Int) = (i : Int) := Int.zero_add _
    show wipe ((wipe σ vs).set j (some (.int ((0 : Int) + (i : Int))))) vs = wipe σ vs ∧ t ((wipe σ vs).set j (some (.int ((0 : Int) + (i : Int))))) H' fun b H3 => if b = true then te ((wipe σ vs).set j (some (.int ((0 : Int) + (i : Int))))) H3 fun y H4 => ∃ acc, H4 Dl = some (.lst acc) ∧ acc.length < sizeLine ∧ Cw H1 f v Dl (i + 1) (upd H4 Dl (.lst (acc ++ [y]))) else Cw H1 f v Dl (i + 1) H3
    rw [e0]
    exact ⟨hw _, cw_turn p (by omega) (ht i H1 (e.trans e1) (by omega)) (fun hf => he i H1 (e.trans e1) (by omega) hf)⟩) (fun H' p => q Dl H' (fresh_back e1 p.1) (e1.trans p.2.1) p.2.2)⟩
/-- the least, the greatest of a new list, given to a name -/
theorem q_minL {i : Nat} {ns : List Int} (h : EvL te σ H (ns.map V.int)) (hne : 0 < ns.length) (k : ∀ m, m ∈ ns → (∀ y, y ∈ ns → m ≤ y) → ∀ H1, Ex H H1 → tz D (σ.set i (some (.int m))) H1) : tSeq (tAsg (tCB (rMin K) (tCons te tNil)) (gName i)) tz D σ H :=
  h H (Ex.refl H) _ fun p H1 _ e1 h1 => ⟨p, ns, rfl, sq_of h1, hne, fun m a b => k m a b H1 e1⟩
theorem q_maxL {i : Nat} {ns : List Int} (h : EvL te σ H (ns.map V.int)) (hne : 0 < ns.length) (k : ∀ m, m ∈ ns → (∀ y, y ∈ ns → y ≤ m) → ∀ H1, Ex H H1 → tz D (σ.set i (some (.int m))) H1) : tSeq (tAsg (tCB (rMax K) (tCons te tNil)) (gName i)) tz D σ H :=
  h H (Ex.refl H) _ fun p H1 _ e1 h1 => ⟨p, ns, rfl, sq_of h1, hne, fun m a b => k m a b H1 e1⟩
end
theorem log2_small {n : Nat} (h : n < 2 ^ 1000) : ((n : Nat) : Int).natAbs.log2 < 1920 := by
  rw [Int.natAbs_natCast]
  by_cases z : n = 0
  · subst z; decide
  · have := (Nat.log2_lt z).mpr h
    omega
theorem within_cons {ds : List Int} {s : Int} {ss : List Int} (h : Within ds (s :: ss)) : ∃ d rest, ds = d :: rest ∧ (0 ≤ d ∧ d < s) ∧ Within rest ss := by
  cases ds with
  | nil => exact h.elim
  | cons d rest => exact ⟨d, rest, rfl, h.1, h.2⟩
theorem sum_range_succ (f : Nat → Nat) (n : Nat) : ((List.range (n + 1)).map f).sum = f 0 + ((List.range n).map fun i => f (i + 1)).sum := by
  rw [List.range_succ_eq_map, List.map_cons, List.sum_cons, List.map_map]
  rfl
theorem sum_range_last (f : Nat → Nat) (n : Nat) : ((List.range (n + 1)).map f).sum = ((List.range n).map f).sum + f n := by
  rw [List.range_succ, List.map_append, List.sum_append]
  simp
end My

set_option Elab.async false
set_option linter.all false
set_option maxRecDepth 100000
set_option maxHeartbeats 4000000
namespace My
open PySem PySem.Spec PyProof.Rows L2 Evl
theorem un64k {k : Nat} {A : Around} (r : Room k A) : A.units + 64 < cLine := by have := r.un; omega
theorem iop_mulW {X : Cx} : OpR X (inplaceOp .Mult) (rI CMulW fun i j => .int (i * j)) := opI fun _ _ _ _ _ _ _ hc q => imul_int q hc.ok
/-! ### words about dicts of numbers, and rows of two -/
def RetU (xs : List V) (H : Hp) (Q : VK) : Prop := ∀ p H2, H p = none → Ex H H2 → H2 p = some (.tup xs) → Q (.ref p) H2
def SpU (sp : Sp) (vs : List V) (H : Hp) (xs : List V) : Prop := ∀ H1, Ex H H1 → ∀ Q : VK, (∀ p H2, H1 p = none → Ex H1 H2 → H2 p = some (.tup xs) → Q (.ref p) H2) → ∀ E : XK, sp vs H1 Q E
theorem get_nV {l : List Nat} {i : Nat} {x : V} (h : (nV l)[i]? = some x) : ∃ z, l[i]? = some z ∧ x = .int (z : Int) := by
  have h2 : (l.map fun (n : Nat) => V.int (n : Int))[i]? = some x := h
  rw [List.getElem?_map] at h2
  cases e : l[i]? with
  | none => rw [e] at h2; cases h2
  | some z => rw [e] at h2; exact ⟨z, rfl, (Option.some.inj h2).symm⟩
theorem kit_tupT {K : PySem.W.Frag} : PySem.W.kitOne K (.type "tuple") (.type "tuple") = some true := by rfl
section
variable {K : PySem.W.Frag} {σ : L2.St} {H : Hp} {ta tb te tl tv td ty tx : TE} {x y z v : V} {D : Ends} {tu tz : TS}
theorem eu_call {sp : Sp} {dvs vs xs : List V} {E : XK} {ta : TA} (h : EvA ta σ H vs) (hs : SpU sp (vs ++ dvs) H xs) : EvU (tCall sp dvs E ta) σ H xs := fun H1 e Q q =>
  h H1 e _ fun H2 e2 => hs H2 (e.trans e2) Q (fun p H3 hp e3 h3 => q p H3 (fresh_back e2 hp) (e2.trans e3) h3) E
theorem eu_callN {n m : Nat} {sp : Sp} {gV : List V → List V → List V} {E : XK} {t tk : TA} {vs zs xs : List V} (h : EvA t σ H vs) (hk : EvA tk σ H zs) (h1 : vs.length = n) (h2 : zs.length = m) (hs : SpU sp (gV vs zs) H xs) : EvU (tCallN n m sp gV E t tk) σ H xs := fun H1 e Q q =>
  h H1 e _ fun H2 e2 => hk H2 (e.trans e2) _ fun H3 e3 => ⟨h1, h2, hs H3 ((e.trans e2).trans e3) Q (fun p H4 hp e4 h4 => q p H4 (fresh_back (e2.trans e3) hp) ((e2.trans e3).trans e4) h4) E⟩
def rTupOf (K : PySem.W.Frag) : List V → Hp → VK → Prop := fun xs H Q => ∃ p ys, xs = [.ref p] ∧ ((SqL K H p ys ∧ ∀ l, H l = none → Q (.ref l) (upd H l (.tup ys))) ∨ (SqT K H p ys ∧ Q (.ref p) H))
theorem eu_tupOf {p : Addr} {xs : List V} (h : Ev te σ H (.ref p)) (hS : SqL K H p xs) : EvU (tCB (rTupOf K) (tCons te tNil)) σ H xs := fun H1 e Q q => h H1 e _ fun H2 e2 =>
  ⟨p, xs, rfl, Or.inl ⟨ex_l (e.trans e2) hS, fun l hl => q l _ (fresh_back e2 hl) (e2.trans (Ex.new hl)) upd_same⟩⟩
theorem ev_lenT {p : Addr} {xs : List V} (ha : Ev ta σ H (.ref p)) (h : SqT K H p xs) : Ev (tCB (rLenS K) (tCons ta tNil)) σ H (.int (xs.length : Int)) := fun H1 e Q q =>
  ha H1 e _ fun H2 e2 => ⟨p, xs, rfl, Or.inr (ex_t (e.trans e2) h), q H2 e2⟩
theorem gT2 {i j : Nat} {T : Addr} {x y : V} {Q : L2.St → Hp → Prop} (h : H T = some (.tup [x, y])) (q : Q ((σ.set i (some x)).set j (some y)) H) : gTup K 2 (gCons (gName i) (gCons (gName j) gNil)) (.ref T) σ H Q :=
  ⟨T, [x, y], rfl, st_of h, rfl, x, [y], rfl, y, [], rfl, rfl, q⟩
theorem q_asgT2 {i j : Nat} {xs ys : V} (h : EvU te σ H [xs, ys]) (k : ∀ H1, Ex H H1 → tz D ((σ.set i (some xs)).set j (some ys)) H1) : tSeq (tAsg te (gTup K 2 (gCons (gName i) (gCons (gName j) gNil)))) tz D σ H :=
  h H (Ex.refl H) _ fun p H1 hp e h1 => gT2 h1 (k H1 e)
def rDM : List V → Hp → VK → Prop := fun xs H Q => ∃ i j, xs = [.int i, .int j] ∧ CDiv i j ∧ ∀ p, H p = none → Q (.ref p) (upd H p (.tup [.int (i / j), .int (i % j)]))
theorem eu_divmod {i j : Int} (ha : Ev ta σ H (.int i)) (hb : Ev tb σ H (.int j)) (hc : CDiv i j) : EvU (tCB rDM (tCons ta (tCons tb tNil))) σ H [.int (i / j), .int (i % j)] := fun H1 e Q q =>
  ha H1 e _ fun H2 e2 => hb H2 (e.trans e2) _ fun H3 e3 => ⟨i, j, rfl, hc, fun p hp => q p _ (fresh_back (e2.trans e3) hp) ((e2.trans e3).trans (Ex.new hp)) upd_same⟩
/-! dicts -/
theorem q_asgD {i : Nat} (k : ∀ p H1, H p = none → Ex H H1 → H1 p = some (.dK []) → tz D (σ.set i (some (.ref p))) H1) : tSeq (tAsg tDNewK (gName i)) tz D σ H := fun p hp => k p _ hp (Ex.new hp) upd_same
theorem ev_dget2 {d : Addr} {kvs : List (Key × V)} {k : Key} (ho : Ev td σ H (.ref d)) (hi : Ev ty σ H (kV k)) (hx : Ev tx σ H z) (hd : H d = some (.dK kvs)) : Ev (tDGet2 td ty tx) σ H ((valV kvs k).getD z) := fun H1 e Q q =>
  ho H1 e _ fun H2 e2 => ⟨d, rfl, Or.inl ⟨kvs, Or.inl ((e.trans e2) _ _ hd)⟩, hi H2 (e.trans e2) _ fun H3 e3 => hx H3 ((e.trans e2).trans e3) _ fun H4 e4 =>
    ⟨_, DGet.k (((e.trans e2).trans e3).trans e4 _ _ hd), q H4 ((e2.trans e3).trans e4)⟩⟩
theorem ev_dget {d : Addr} {kvs : List (Key × V)} {k : Key} (ho : Ev td σ H (.ref d)) (hi : Ev ty σ H (kV k)) (hd : H d = some (.dK kvs)) (hv : valV kvs k = some v) : Ev (tDGet td ty) σ H v := fun H1 e Q q =>
  ho H1 e _ fun H2 e2 => hi H2 (e.trans e2) _ fun H3 e3 => ⟨d, v, rfl, Or.inl ⟨kvs, k, Or.inl (((e.trans e2).trans e3) _ _ hd), rfl, hv.symm⟩, q H3 (e2.trans e3)⟩
theorem ev_dgetF {d : Addr} {kvs : List (Key × V)} {k : Key} {o : Obj} (ho : Ev td σ H (.ref d)) (hi : Ev ty σ H (kV k)) (hd : H d = some (.frz o (.dK kvs))) (hv : valV kvs k = some v) : Ev (tDGet td ty) σ H v := fun H1 e Q q =>
  ho H1 e _ fun H2 e2 => hi H2 (e.trans e2) _ fun H3 e3 => ⟨d, v, rfl, Or.inl ⟨kvs, k, Or.inr ⟨o, ((e.trans e2).trans e3) _ _ hd⟩, rfl, hv.symm⟩, q H3 (e2.trans e3)⟩
theorem s_dputK {d : Addr} {kvs : List (Key × V)} {k : Key} (hv : Ev tv σ H v) (ho : Ev td σ H (.ref d)) (hi : Ev ty σ H (kV k)) (hd : H d = some (.dK kvs)) (hl : kvs.length < sizeLine)
    (kk : ∀ H1, Ex H H1 → D.nx σ (upd H1 d (.dK (putK kvs k v)))) : sDPut td ty tv D σ H :=
  hv H (Ex.refl H) _ fun H1 e1 => ho H1 e1 _ fun H2 e2 => hi H2 (e1.trans e2) _ fun H3 e3 => ⟨d, _, rfl, DPut.k (((e1.trans e2).trans e3) _ _ hd) hl, kk H3 ((e1.trans e2).trans e3)⟩
theorem s_forKeysU {i j : Nat} {d : Addr} {kvs : List (Key × V)} (hv : σ[i]? = some (some (.ref d))) (hd : H d = some (.dK kvs)) (Pv : Obj → Nat → L2.St → Hp → Prop) (h0 : ∀ od, Pv od 0 σ (upd H d (.frz od (.dK kvs))))
    (hl : ∀ od n σ' H', Pv od n σ' H' → H' d = some (.frz od (.dK kvs)))
    (hs : ∀ od n k z σ' H', kvs[n]? = some (k, z) → Pv od n σ' H' → ∀ D' : Ends, (∀ σ2 H2, Pv od (n + 1) σ2 H2 → D'.nx σ2 H2) → tu D' (σ'.set j (some (kV k))) H')
    (hd2 : ∀ od σ' H', Pv od kvs.length σ' H' → D.nx σ' (upd H' d (.dK kvs))) : tLock (tFor (iKeys (tVar i)) (gName j) tu) D σ H :=
  ⟨d, .dK kvs, hd, trivial, fun od => ⟨.ref d, hv, d, od, rfl, Or.inl ⟨kvs, upd_same, fun n m σ' H' => m = kvs.length - n ∧ n ≤ kvs.length ∧ Pv od n σ' H', ⟨kvs.length, by simp, Nat.zero_le _, h0 od⟩, by
    rintro n m σ' H' ⟨rfl, hn, p⟩
    by_cases hlt : n < kvs.length
    · refine .inr ⟨⟨hl _ _ _ _ p, hlt⟩, Pv od (n + 1), fun σ2 H2 p2 => ⟨kvs.length - (n + 1), by omega, rfl, hlt, p2⟩, fun y H2 hy => ?_⟩
      obtain ⟨rfl, k, z, hk, rfl⟩ := hy
      exact hs od n k z σ' H2 hk p _ fun σ2 H3 p3 => p3
    · have e1 : n = kvs.length := by omega
      subst e1
      exact .inl ⟨⟨hl _ _ _ _ p, Nat.le_refl _⟩, hl _ _ _ _ p, hd2 od σ' H' p⟩⟩⟩⟩
theorem q_forKeysU {i j : Nat} {d : Addr} {kvs : List (Key × V)} (hv : σ[i]? = some (some (.ref d))) (hd : H d = some (.dK kvs)) (Pv : Obj → Nat → L2.St → Hp → Prop) (h0 : ∀ od, Pv od 0 σ (upd H d (.frz od (.dK kvs))))
    (hl : ∀ od n σ' H', Pv od n σ' H' → H' d = some (.frz od (.dK kvs)))
    (hs : ∀ od n k z σ' H', kvs[n]? = some (k, z) → Pv od n σ' H' → ∀ D' : Ends, (∀ σ2 H2, Pv od (n + 1) σ2 H2 → D'.nx σ2 H2) → tu D' (σ'.set j (some (kV k))) H')
    (hd2 : ∀ od σ' H', Pv od kvs.length σ' H' → tz D σ' (upd H' d (.dK kvs))) : tSeq (tLock (tFor (iKeys (tVar i)) (gName j) tu)) tz D σ H := s_forKeysU (D := { D with nx := tz D }) hv hd Pv h0 hl hs hd2
/-! equality of rows of numbers -/
def pairD (a b : Int) : PyData := .tuple [.int a, .int b]
def intsD (l : List Int) : PyData := .list (l.map PyData.int)
theorem shaped_pair (a b : Int) : SeqAt.shaped (pairD a b) = true := rfl
theorem can_ints : ∀ l : List Int, PyData.canLayAll0 (l.map PyData.int) = true
  | [] => rfl
  | i :: l => by
    show (PyData.canLay0 (PyData.int i) && PyData.canLayAll0 (l.map PyData.int)) = true
    rw [can_ints l]
    rfl
theorem dp_ints {a : Addr} {l : List Int} (h : SqL K H a (l.map V.int)) : Dp K H (.ref a) (intsD l) := Dp.lst h (by
  clear h
  induction l with
  | nil => exact DpAll.nil
  | cons i l ih => exact DpAll.cons (Dp.int i) ih)
theorem dp_pair {p : Addr} {a b : Int} (h : SqT K H p [.int a, .int b]) : Dp K H (.ref p) (pairD a b) := Dp.tup h (DpAll.cons (Dp.int a) (DpAll.cons (Dp.int b) DpAll.nil))
theorem ev_eqPair {p q : Addr} {a b : Int} (h1 : Ev ta σ H (.ref p)) (h2 : Ev tb σ H (.ref q)) (s1 : SqT K H p [.int a, .int b]) (s2 : SqT K H q [.int a, .int b]) : Ev (tOp (rEqD K) ta tb) σ H (.bl true) := fun H0 e0 Q q' =>
  h1 H0 e0 _ fun H1 e1 => h2 H1 (e0.trans e1) _ fun H2 e2 => ⟨pairD a b, pairD a b, dp_pair (ex_t ((e0.trans e1).trans e2) s1), dp_pair (ex_t ((e0.trans e1).trans e2) s2), shaped_pair a b, shaped_pair a b, by
    rw [SeqAt.eqv_refl (pairD a b) rfl]
    exact q' H2 (e1.trans e2)⟩
end
end My

set_option Elab.async false
set_option linter.all false
set_option maxRecDepth 100000
set_option maxHeartbeats 4000000
namespace My
/-- a number to the power of itself -/
def ff (n : Nat) : Nat := n ^ n
theorem ff_pos (n : Nat) : 0 < ff n := by
  cases n with
  | zero => decide
  | succ n => exact Nat.pow_pos (by omega)
theorem bern (k : Nat) : ∀ n, n ≤ k + 1 → (k + 1 - n) * (k + 1) ^ n ≤ (k + 1) * k ^ n
  | 0, _ => by simp
  | n + 1, h => by
    have ih := bern k n (by omega)
    have e1 : (k + 1 - (n + 1)) * (k + 1) ≤ (k + 1 - n) * k := by
      obtain ⟨a, rfl⟩ : ∃ a, k = n + a := ⟨k - n, by omega⟩
      have : n + a + 1 - (n + 1) = a := by omega
      have h2 : n + a + 1 - n = a + 1 := by omega
      rw [this, h2, Nat.add_mul, Nat.mul_add, Nat.mul_add, Nat.mul_add]
      omega
    calc (k + 1 - (n + 1)) * (k + 1) ^ (n + 1) = (k + 1 - (n + 1)) * (k + 1) * (k + 1) ^ n := by rw [Nat.pow_succ]; ac_rfl
      _ ≤ (k + 1 - n) * k * (k + 1) ^ n := Nat.mul_le_mul_right _ e1
      _ = (k + 1 - n) * (k + 1) ^ n * k := by ac_rfl
      _ ≤ (k + 1) * k ^ n * k := Nat.mul_le_mul_right _ ih
      _ = (k + 1) * k ^ (n + 1) := by rw [Nat.pow_succ]; ac_rfl
theorem poly (n : Nat) : ((n + 1) * (n + 1)) * ((n + 1) * (n + 1)) < (n * n + n + 1) * ((n + 2) * (n + 2)) := by
  have e : (n * n + n + 1) * ((n + 2) * (n + 2)) = ((n + 1) * (n + 1)) * ((n + 1) * (n + 1)) + (n * n * n + 3 * (n * n) + 4 * n + 3) := by
    simp only [Nat.add_mul, Nat.mul_add, Nat.mul_one, Nat.one_mul]
    have c1 : n * n * (n * n) = n * n * n * n := by ac_rfl
    have c2 : n * n * (n * 2) = n * n * n * 2 := by ac_rfl
    have c3 : n * n * (2 * n) = n * n * n * 2 := by ac_rfl
    have c4 : n * (n * n) = n * n * n := by ac_rfl
    have c5 : n * (n * 2) = n * n * 2 := by ac_rfl
    have c6 : n * (2 * n) = n * n * 2 := by ac_rfl
    simp only [c1, c2, c3, c4, c5, c6]
    omega
  rw [e]
  omega
theorem ff_convex (n : Nat) : ff (n + 1) * ff (n + 1) < ff n * ff (n + 2) := by
  have hm : n * (n + 2) + 1 = (n + 1) * (n + 1) := by
    simp only [Nat.add_mul, Nat.mul_add]; omega
  have hb := bern (n * (n + 2)) n (by rw [Nat.mul_add]; omega)
  have hs : n * (n + 2) + 1 - n = n * n + n + 1 := by rw [Nat.mul_add]; omega
  rw [hs, hm] at hb
  have e1 : ff (n + 1) * ff (n + 1) = ((n + 1) * (n + 1)) ^ n * ((n + 1) * (n + 1)) := by
    unfold ff
    rw [← Nat.mul_pow, Nat.pow_succ]
  have e2 : ff n * ff (n + 2) = (n * (n + 2)) ^ n * ((n + 2) * (n + 2)) := by
    unfold ff
    rw [show (n + 2) ^ (n + 2) = (n + 2) ^ n * ((n + 2) * (n + 2)) by rw [Nat.pow_add, Nat.pow_two], ← Nat.mul_assoc, ← Nat.mul_pow]
  rw [e1, e2]
  have hp : 0 < ((n + 1) * (n + 1)) ^ n := Nat.pow_pos (Nat.mul_pos (by omega) (by omega))
  have hc := poly n
  have : ((n + 1) * (n + 1)) * (((n + 1) * (n + 1)) ^ n * ((n + 1) * (n + 1))) < ((n + 1) * (n + 1)) * ((n * (n + 2)) ^ n * ((n + 2) * (n + 2))) := by
    calc ((n + 1) * (n + 1)) * (((n + 1) * (n + 1)) ^ n * ((n + 1) * (n + 1))) = ((n + 1) * (n + 1)) ^ n * (((n + 1) * (n + 1)) * ((n + 1) * (n + 1))) := by ac_rfl
      _ < ((n + 1) * (n + 1)) ^ n * ((n * n + n + 1) * ((n + 2) * (n + 2))) := Nat.mul_lt_mul_of_pos_left hc hp
      _ = (n * n + n + 1) * ((n + 1) * (n + 1)) ^ n * ((n + 2) * (n + 2)) := by ac_rfl
      _ ≤ (n + 1) * (n + 1) * (n * (n + 2)) ^ n * ((n + 2) * (n + 2)) := Nat.mul_le_mul_right _ hb
      _ = ((n + 1) * (n + 1)) * ((n * (n + 2)) ^ n * ((n + 2) * (n + 2))) := by ac_rfl
  exact Nat.lt_of_mul_lt_mul_left this
/-- the quotients of neighbours grow -/
theorem ff_ratio (q : Nat) : ∀ d, ff (q + 1) * ff (q + d) ≤ ff (q + d + 1) * ff q
  | 0 => Nat.le_refl _
  | d + 1 => by
    have ih := ff_ratio q d
    have hc := Nat.le_of_lt (ff_convex (q + d))
    have : ff (q + 1) * ff (q + (d + 1)) * ff (q + d) ≤ ff (q + (d + 1) + 1) * ff q * ff (q + d) := by
      calc ff (q + 1) * ff (q + (d + 1)) * ff (q + d) = ff (q + 1) * ff (q + d) * ff (q + d + 1) := by show ff (q + 1) * ff (q + d + 1) * ff (q + d) = _; ac_rfl
        _ ≤ ff (q + d + 1) * ff q * ff (q + d + 1) := Nat.mul_le_mul_right _ ih
        _ = ff (q + d + 1) * ff (q + d + 1) * ff q := by ac_rfl
        _ ≤ ff (q + d) * ff (q + d + 2) * ff q := Nat.mul_le_mul_right _ hc
        _ = ff (q + (d + 1) + 1) * ff q * ff (q + d) := by show _ = ff (q + d + 2) * ff q * ff (q + d); ac_rfl
    exact Nat.le_of_mul_le_mul_right this (ff_pos _)
theorem ff_ratioS (q d : Nat) : ff (q + 1) * ff (q + (d + 1)) < ff (q + (d + 1) + 1) * ff q := by
  have ih := ff_ratio q d
  have hc := ff_convex (q + d)
  have : ff (q + 1) * ff (q + (d + 1)) * ff (q + d) < ff (q + (d + 1) + 1) * ff q * ff (q + d) := by
    calc ff (q + 1) * ff (q + (d + 1)) * ff (q + d) = ff (q + 1) * ff (q + d) * ff (q + d + 1) := by show ff (q + 1) * ff (q + d + 1) * ff (q + d) = _; ac_rfl
      _ ≤ ff (q + d + 1) * ff q * ff (q + d + 1) := Nat.mul_le_mul_right _ ih
      _ = ff (q + d + 1) * ff (q + d + 1) * ff q := by ac_rfl
      _ < ff (q + d) * ff (q + d + 2) * ff q := Nat.mul_lt_mul_of_pos_right hc (ff_pos _)
      _ = ff (q + (d + 1) + 1) * ff q * ff (q + d) := by show _ = ff (q + d + 2) * ff q * ff (q + d); ac_rfl
  exact Nat.lt_of_mul_lt_mul_right this
theorem up_le (q : Nat) : ∀ d, ff q * ff (q + 1) ^ d ≤ ff (q + d) * ff q ^ d
  | 0 => by simp
  | d + 1 => by
    have ih := up_le q d
    have hr := ff_ratio q d
    calc ff q * ff (q + 1) ^ (d + 1) = ff q * ff (q + 1) ^ d * ff (q + 1) := by rw [Nat.pow_succ]; ac_rfl
      _ ≤ ff (q + d) * ff q ^ d * ff (q + 1) := Nat.mul_le_mul_right _ ih
      _ = ff (q + 1) * ff (q + d) * ff q ^ d := by ac_rfl
      _ ≤ ff (q + d + 1) * ff q * ff q ^ d := Nat.mul_le_mul_right _ hr
      _ = ff (q + (d + 1)) * ff q ^ (d + 1) := by rw [Nat.pow_succ]; show ff (q + d + 1) * _ * _ = ff (q + d + 1) * _; ac_rfl
theorem up_lt (q d : Nat) : ff q * ff (q + 1) ^ (d + 2) < ff (q + (d + 2)) * ff q ^ (d + 2) := by
  have ih := up_le q (d + 1)
  have hr := ff_ratioS q d
  calc ff q * ff (q + 1) ^ (d + 2) = ff q * ff (q + 1) ^ (d + 1) * ff (q + 1) := by rw [Nat.pow_succ _ (d + 1)]; ac_rfl
    _ ≤ ff (q + (d + 1)) * ff q ^ (d + 1) * ff (q + 1) := Nat.mul_le_mul_right _ ih
    _ = ff (q + 1) * ff (q + (d + 1)) * ff q ^ (d + 1) := by ac_rfl
    _ < ff (q + (d + 1) + 1) * ff q * ff q ^ (d + 1) := Nat.mul_lt_mul_of_pos_right hr (Nat.pow_pos (ff_pos _))
    _ = ff (q + (d + 2)) * ff q ^ (d + 2) := by rw [Nat.pow_succ _ (d + 1)]; show ff (q + d + 2) * _ * _ = ff (q + d + 2) * _; ac_rfl
theorem down_lt (x : Nat) : ∀ d, ff (x + (d + 1)) * ff (x + (d + 1)) ^ (d + 1) < ff x * ff (x + (d + 1) + 1) ^ (d + 1) := by
  intro d
  -- from x up to q = x + d + 1 by steps
  have key : ∀ e, e ≤ d → ff (x + (e + 1)) * ff (x + (d + 1)) ^ (e + 1) < ff x * ff (x + (d + 1) + 1) ^ (e + 1) := by
    intro e
    induction e with
    | zero =>
      intro _
      have h := ff_ratioS x d
      rw [Nat.zero_add, Nat.pow_one, Nat.pow_one, Nat.mul_comm (ff x)]
      exact h
    | succ e ih =>
      intro he
      have ih := ih (by omega)
      have h : ff (x + (e + 1) + 1) * ff (x + (d + 1)) ≤ ff (x + (d + 1) + 1) * ff (x + (e + 1)) := by
        have := ff_ratio (x + (e + 1)) (d - e)
        rwa [show x + (e + 1) + (d - e) = x + (d + 1) by omega] at this
      have hp : 0 < ff (x + (d + 1)) ^ (e + 1) := Nat.pow_pos (ff_pos _)
      calc ff (x + (e + 1 + 1)) * ff (x + (d + 1)) ^ (e + 1 + 1) = ff (x + (e + 1) + 1) * ff (x + (d + 1)) * ff (x + (d + 1)) ^ (e + 1) := by rw [Nat.pow_succ _ (e + 1)]; show ff (x + (e + 1) + 1) * _ = _; ac_rfl
        _ ≤ ff (x + (d + 1) + 1) * ff (x + (e + 1)) * ff (x + (d + 1)) ^ (e + 1) := Nat.mul_le_mul_right _ h
        _ = ff (x + (e + 1)) * ff (x + (d + 1)) ^ (e + 1) * ff (x + (d + 1) + 1) := by ac_rfl
        _ < ff x * ff (x + (d + 1) + 1) ^ (e + 1) * ff (x + (d + 1) + 1) := Nat.mul_lt_mul_of_pos_right ih (ff_pos _)
        _ = ff x * ff (x + (d + 1) + 1) ^ (e + 1 + 1) := by rw [Nat.pow_succ _ (e + 1)]; ac_rfl
  exact key d (Nat.le_refl d)
/-- one number against its two neighbours -/
theorem one_le (q x : Nat) : ff q * ff (q + 1) ^ (x - q) * ff q ^ (q - x) ≤ ff x * ff q ^ (x - q) * ff (q + 1) ^ (q - x) := by
  by_cases h : q ≤ x
  · obtain ⟨d, rfl⟩ : ∃ d, x = q + d := ⟨x - q, by omega⟩
    have h0 : q - (q + d) = 0 := by omega
    have h1 : q + d - q = d := by omega
    rw [h0, h1, Nat.pow_zero, Nat.pow_zero, Nat.mul_one, Nat.mul_one]
    exact up_le q d
  · obtain ⟨d, rfl⟩ : ∃ d, q = x + (d + 1) := ⟨q - x - 1, by omega⟩
    have h0 : x - (x + (d + 1)) = 0 := by omega
    have h1 : x + (d + 1) - x = d + 1 := by omega
    rw [h0, h1, Nat.pow_zero, Nat.pow_zero, Nat.mul_one, Nat.mul_one]
    exact Nat.le_of_lt (down_lt x d)
theorem one_lt (q x : Nat) (hx : x ≠ q ∧ x ≠ q + 1) : ff q * ff (q + 1) ^ (x - q) * ff q ^ (q - x) < ff x * ff q ^ (x - q) * ff (q + 1) ^ (q - x) := by
  by_cases h : q ≤ x
  · obtain ⟨d, rfl⟩ : ∃ d, x = q + (d + 2) := ⟨x - q - 2, by omega⟩
    have h0 : q - (q + (d + 2)) = 0 := by omega
    have h1 : q + (d + 2) - q = d + 2 := by omega
    rw [h0, h1, Nat.pow_zero, Nat.pow_zero, Nat.mul_one, Nat.mul_one]
    exact up_lt q d
  · obtain ⟨d, rfl⟩ : ∃ d, q = x + (d + 1) := ⟨q - x - 1, by omega⟩
    have h0 : x - (x + (d + 1)) = 0 := by omega
    have h1 : x + (d + 1) - x = d + 1 := by omega
    rw [h0, h1, Nat.pow_zero, Nat.pow_zero, Nat.mul_one, Nat.mul_one]
    exact down_lt x d
theorem one_eq (q x : Nat) (hx : x = q ∨ x = q + 1) : ff q * ff (q + 1) ^ (x - q) * ff q ^ (q - x) = ff x * ff q ^ (x - q) * ff (q + 1) ^ (q - x) := by
  rcases hx with rfl | rfl
  · rw [Nat.sub_self]
    simp
  · rw [show q + 1 - q = 1 by omega, show q - (q + 1) = 0 by omega]
    simp
    ac_rfl
/-- the product of all numbers to their own powers -/
def pr : List Nat → Nat
  | [] => 1
  | x :: l => ff x * pr l
theorem pr_pos : ∀ l, 0 < pr l
  | [] => Nat.one_pos
  | x :: l => Nat.mul_pos (ff_pos x) (pr_pos l)
theorem pr_app : ∀ a b, pr (a ++ b) = pr a * pr b
  | [], b => (Nat.one_mul _).symm
  | x :: a, b => by show ff x * pr (a ++ b) = ff x * pr a * pr b; rw [pr_app a b, Nat.mul_assoc]
def ups (q : Nat) (l : List Nat) : Nat := (l.map fun x => x - q).sum
def dns (q : Nat) (l : List Nat) : Nat := (l.map fun x => q - x).sum
theorem sums (q : Nat) : ∀ l : List Nat, l.sum + dns q l = l.length * q + ups q l
  | [] => by simp [dns, ups]
  | x :: l => by
    have ih := sums q l
    simp only [dns, ups, List.map_cons, List.sum_cons, List.length_cons, Nat.succ_mul] at *
    omega
theorem all_le (q : Nat) : ∀ l, ff q ^ l.length * ff (q + 1) ^ ups q l * ff q ^ dns q l ≤ pr l * ff q ^ ups q l * ff (q + 1) ^ dns q l
  | [] => by simp [ups, dns, pr]
  | x :: l => by
    have ih := all_le q l
    have h := one_le q x
    have hh := Nat.mul_le_mul h ih
    simp only [ups, dns, List.map_cons, List.sum_cons, List.length_cons, Nat.pow_add, Nat.pow_succ, pr] at *
    refine Nat.le_trans (Nat.le_of_eq ?_) (Nat.le_trans hh (Nat.le_of_eq ?_)) <;> ac_rfl
theorem all_lt (q : Nat) : ∀ l, (∃ x ∈ l, x ≠ q ∧ x ≠ q + 1) → ff q ^ l.length * ff (q + 1) ^ ups q l * ff q ^ dns q l < pr l * ff q ^ ups q l * ff (q + 1) ^ dns q l
  | [], h => by obtain ⟨x, hx, _⟩ := h; cases hx
  | x :: l, h => by
    by_cases hx : x ≠ q ∧ x ≠ q + 1
    · have ih := all_le q l
      have h := one_lt q x hx
      have hp : 0 < ff q ^ l.length * ff (q + 1) ^ ups q l * ff q ^ dns q l := Nat.mul_pos (Nat.mul_pos (Nat.pow_pos (ff_pos _)) (Nat.pow_pos (ff_pos _))) (Nat.pow_pos (ff_pos _))
      have hh := Nat.lt_of_lt_of_le (Nat.mul_lt_mul_of_pos_right h hp) (Nat.mul_le_mul_left _ ih)
      simp only [ups, dns, List.map_cons, List.sum_cons, List.length_cons, Nat.pow_add, Nat.pow_succ, pr] at *
      refine Nat.lt_of_le_of_lt (Nat.le_of_eq ?_) (Nat.lt_of_lt_of_le hh (Nat.le_of_eq ?_)) <;> ac_rfl
    · have h2 : ∃ x ∈ l, x ≠ q ∧ x ≠ q + 1 := by
        obtain ⟨y, hy, h3⟩ := h
        rcases List.mem_cons.mp hy with rfl | hy
        · exact absurd h3 hx
        · exact ⟨y, hy, h3⟩
      have ih := all_lt q l h2
      have h := one_le q x
      have hp : 0 < ff q * ff (q + 1) ^ (x - q) * ff q ^ (q - x) := Nat.mul_pos (Nat.mul_pos (ff_pos _) (Nat.pow_pos (ff_pos _))) (Nat.pow_pos (ff_pos _))
      have hh := Nat.lt_of_lt_of_le (Nat.mul_lt_mul_of_pos_left ih hp) (Nat.mul_le_mul_right _ h)
      simp only [ups, dns, List.map_cons, List.sum_cons, List.length_cons, Nat.pow_add, Nat.pow_succ, pr] at *
      refine Nat.lt_of_le_of_lt (Nat.le_of_eq ?_) (Nat.lt_of_lt_of_le hh (Nat.le_of_eq ?_)) <;> ac_rfl
theorem all_eq (q : Nat) : ∀ l, (∀ x ∈ l, x = q ∨ x = q + 1) → ff q ^ l.length * ff (q + 1) ^ ups q l * ff q ^ dns q l = pr l * ff q ^ ups q l * ff (q + 1) ^ dns q l
  | [], _ => by simp [ups, dns, pr]
  | x :: l, hl => by
    have ih := all_eq q l fun y hy => hl y (List.mem_cons_of_mem _ hy)
    have h := one_eq q x (hl x List.mem_cons_self)
    have hh : (ff q * ff (q + 1) ^ (x - q) * ff q ^ (q - x)) * (ff q ^ l.length * ff (q + 1) ^ ups q l * ff q ^ dns q l) = (ff x * ff q ^ (x - q) * ff (q + 1) ^ (q - x)) * (pr l * ff q ^ ups q l * ff (q + 1) ^ dns q l) := by rw [h, ih]
    simp only [ups, dns, List.map_cons, List.sum_cons, List.length_cons, Nat.pow_add, Nat.pow_succ, pr] at *
    refine Eq.trans ?_ (Eq.trans hh ?_) <;> ac_rfl
/-- the power product -/
def ppN (many amount : Nat) : Nat := ff (amount / many) ^ (many - amount % many) * ff (amount / many + 1) ^ (amount % many)
theorem pp_chain {q r len U D P : Nat} (hU : U = D + r) (hr : r ≤ len) :
    (ff q ^ len * ff (q + 1) ^ U * ff q ^ D = (ff q ^ (len - r) * ff (q + 1) ^ r) * (ff q ^ (r + D) * ff (q + 1) ^ D)) ∧ (P * ff q ^ U * ff (q + 1) ^ D = P * (ff q ^ (r + D) * ff (q + 1) ^ D)) := by
  subst hU
  constructor
  · rw [show len = (len - r) + r by omega, Nat.pow_add, Nat.pow_add, Nat.pow_add, show len - r + r - r = len - r by omega]
    ac_rfl
  · rw [Nat.add_comm r D]
    ac_rfl
theorem split_facts {l : List Nat} {many amount : Nat} (h0 : 0 < many) (hl : l.length = many) (hs : l.sum = amount) : ups (amount / many) l = dns (amount / many) l + amount % many := by
  have h1 := sums (amount / many) l
  rw [hl, hs] at h1
  have h2 := Nat.div_add_mod amount many
  rw [Nat.mul_comm] at h2
  have h3 : many * (amount / many) = amount / many * many := Nat.mul_comm _ _
  omega
theorem pp_le {l : List Nat} {many amount : Nat} (h0 : 0 < many) (hl : l.length = many) (hs : l.sum = amount) : ppN many amount ≤ pr l := by
  have h := all_le (amount / many) l
  obtain ⟨e1, e2⟩ := pp_chain (q := amount / many) (len := l.length) (P := pr l) (split_facts h0 hl hs) (by rw [hl]; exact Nat.le_of_lt (Nat.mod_lt _ h0))
  rw [e1, e2, hl] at h
  exact Nat.le_of_mul_le_mul_right h (Nat.mul_pos (Nat.pow_pos (ff_pos _)) (Nat.pow_pos (ff_pos _)))
theorem pp_lt {l : List Nat} {many amount : Nat} (h0 : 0 < many) (hl : l.length = many) (hs : l.sum = amount) (hx : ∃ x ∈ l, x ≠ amount / many ∧ x ≠ amount / many + 1) : ppN many amount < pr l := by
  have h := all_lt (amount / many) l hx
  obtain ⟨e1, e2⟩ := pp_chain (q := amount / many) (len := l.length) (P := pr l) (split_facts h0 hl hs) (by rw [hl]; exact Nat.le_of_lt (Nat.mod_lt _ h0))
  rw [e1, e2, hl] at h
  exact Nat.lt_of_mul_lt_mul_right h
theorem pp_eq {l : List Nat} {many amount : Nat} (h0 : 0 < many) (hl : l.length = many) (hs : l.sum = amount) (hx : ∀ x ∈ l, x = amount / many ∨ x = amount / many + 1) : ppN many amount = pr l := by
  have h := all_eq (amount / many) l hx
  obtain ⟨e1, e2⟩ := pp_chain (q := amount / many) (len := l.length) (P := pr l) (split_facts h0 hl hs) (by rw [hl]; exact Nat.le_of_lt (Nat.mod_lt _ h0))
  rw [e1, e2, hl] at h
  exact Nat.eq_of_mul_eq_mul_right (Nat.mul_pos (Nat.pow_pos (ff_pos _)) (Nat.pow_pos (ff_pos _))) h
theorem sum_le_of {b : Nat} : ∀ {l : List Nat}, (∀ x ∈ l, x ≤ b) → l.sum ≤ l.length * b
  | [], _ => by simp
  | x :: l, h => by
    have ih := sum_le_of (l := l) fun y hy => h y (List.mem_cons_of_mem _ hy)
    have hx := h x List.mem_cons_self
    simp only [List.sum_cons, List.length_cons, Nat.succ_mul]
    omega
theorem sum_ge_of {b : Nat} : ∀ {l : List Nat}, (∀ x ∈ l, b ≤ x) → l.length * b ≤ l.sum
  | [], _ => by simp
  | x :: l, h => by
    have ih := sum_ge_of (l := l) fun y hy => h y (List.mem_cons_of_mem _ hy)
    have hx := h x List.mem_cons_self
    simp only [List.sum_cons, List.length_cons, Nat.succ_mul]
    omega
theorem sum_lt_of {b c : Nat} (hc : c < b) : ∀ {l : List Nat}, (∀ x ∈ l, x ≤ b) → c ∈ l → l.sum < l.length * b
  | [], _, h => by cases h
  | x :: l, h, hm => by
    have hx := h x List.mem_cons_self
    simp only [List.sum_cons, List.length_cons, Nat.succ_mul]
    rcases List.mem_cons.mp hm with rfl | hm
    · have := sum_le_of (l := l) fun y hy => h y (List.mem_cons_of_mem _ hy)
      omega
    · have := sum_lt_of hc (l := l) (fun y hy => h y (List.mem_cons_of_mem _ hy)) hm
      omega
/-- an even split, and no other one, has neighbours alone -/
theorem even_iff {l : List Nat} {many amount mx mn : Nat} (h0 : 0 < many) (hl : l.length = many) (hs : l.sum = amount) (hmx : mx ∈ l) (hmn : mn ∈ l) (h1 : ∀ x ∈ l, x ≤ mx) (h2 : ∀ x ∈ l, mn ≤ x) :
    mx - mn ≤ 1 ↔ ∀ x ∈ l, x = amount / many ∨ x = amount / many + 1 := by
  have hdm := Nat.div_add_mod amount many
  have hml := Nat.mod_lt amount h0
  constructor
  · intro h
    have g1 := sum_ge_of h2
    have g2 := sum_le_of h1
    rw [hl, hs] at g1 g2
    have hmq : mn ≤ amount / many := (Nat.le_div_iff_mul_le h0).mpr (by rw [Nat.mul_comm]; exact g1)
    have hxq : amount / many ≤ mx := by
      refine Nat.le_of_lt_succ ?_
      rw [Nat.div_lt_iff_lt_mul h0]
      have : (mx + 1) * many = many * mx + many := by rw [Nat.succ_mul, Nat.mul_comm]
      show amount < (mx + 1) * many
      omega
    intro x hx
    have a1 := h1 x hx
    have a2 := h2 x hx
    by_cases e : mn = amount / many
    · omega
    · have e2 : mx = amount / many := by omega
      have e3 := sum_lt_of (b := mx) (c := mn) (by omega) h1 hmn
      rw [hl, hs, e2] at e3
      omega
  · intro h
    have a := h mx hmx
    have b := h mn hmn
    omega
theorem pp_iff {l : List Nat} {many amount mx mn : Nat} (h0 : 0 < many) (hl : l.length = many) (hs : l.sum = amount) (hmx : mx ∈ l) (hmn : mn ∈ l) (h1 : ∀ x ∈ l, x ≤ mx) (h2 : ∀ x ∈ l, mn ≤ x) :
    ppN many amount = pr l ↔ mx - mn ≤ 1 := by
  rw [even_iff h0 hl hs hmx hmn h1 h2]
  constructor
  · intro h x hx
    refine Classical.byContradiction fun hn => ?_
    have := pp_lt h0 hl hs ⟨x, hx, by omega⟩
    omega
  · exact pp_eq h0 hl hs
/-- the even split -/
def evenN (many amount : Nat) : List Nat := (List.range many).map fun k => amount / many + (if k < amount % many then 1 else 0)
theorem even_len (many amount : Nat) : (evenN many amount).length = many := by simp [evenN]
theorem even_sum {many amount : Nat} (h0 : 0 < many) : (evenN many amount).sum = amount := by
  have key : ∀ (q r n : Nat), ((List.range n).map fun k => q + (if k < r then 1 else 0)).sum = n * q + min n r := by
    intro q r n
    induction n with
    | zero => simp
    | succ n ih =>
      rw [sum_range_last, ih, Nat.succ_mul]
      split <;> omega
  have := key (amount / many) (amount % many) many
  unfold evenN
  rw [this]
  have h1 := Nat.div_add_mod amount many
  have h2 := Nat.mod_lt amount h0
  omega
theorem even_pp {many amount : Nat} (h0 : 0 < many) : pr (evenN many amount) = ppN many amount := by
  refine (pp_eq h0 (even_len _ _) (even_sum h0) fun x hx => ?_).symm
  simp only [evenN, List.mem_map] at hx
  obtain ⟨k, _, rfl⟩ := hx
  split <;> omega
/-! ### sizes -/
theorem ff_small {n b : Nat} (h : n ≤ b) (h2 : b ≤ 512) : ff n ≤ 2 ^ (9 * n) := by
  unfold ff
  rw [Nat.pow_mul]
  exact Nat.pow_le_pow_left (by omega) n
theorem pr_small : ∀ {l : List Nat}, l.sum ≤ 512 → pr l ≤ 2 ^ (9 * l.sum)
  | [], _ => by simp [pr]
  | x :: l, h => by
    rw [List.sum_cons] at h
    have ih := pr_small (l := l) (by omega)
    rw [List.sum_cons, Nat.mul_add, Nat.pow_add]
    exact Nat.mul_le_mul (ff_small (b := 512) (by omega) (by omega)) ih
theorem pp_small {many amount : Nat} (h0 : 0 < many) (h : amount ≤ 512) : ppN many amount ≤ 2 ^ (9 * amount) := by
  have := pr_small (l := evenN many amount) (by rw [even_sum h0]; exact h)
  rwa [even_pp h0, even_sum h0] at this
/-! ### all splits -/
def spl (amount : Nat) : Nat → List (List Nat)
  | 0 => [[]]
  | t + 1 => (spl amount t).flatMap fun row => (List.range (amount - row.sum + 1)).map fun part => row ++ [part]
theorem spl_in (amount : Nat) : ∀ t row, row ∈ spl amount t ↔ row.length = t ∧ row.sum ≤ amount
  | 0, row => by
    simp only [spl, List.mem_singleton]
    constructor
    · rintro rfl; simp
    · rintro ⟨h, _⟩; exact List.length_eq_zero_iff.mp h
  | t + 1, row => by
    simp only [spl, List.mem_flatMap, List.mem_map, List.mem_range]
    constructor
    · rintro ⟨r, hr, p, hp, rfl⟩
      obtain ⟨h1, h2⟩ := (spl_in amount t r).mp hr
      simp only [List.length_append, List.length_singleton, List.sum_append, List.sum_singleton]
      omega
    · rintro ⟨h1, h2⟩
      have hne : row ≠ [] := by rintro rfl; simp at h1
      have e := List.dropLast_concat_getLast hne
      have hs : row.sum = row.dropLast.sum + row.getLast hne := by
        conv => lhs; rw [← e]
        simp
      refine ⟨row.dropLast, (spl_in amount t _).mpr ⟨by rw [List.length_dropLast]; omega, by omega⟩, row.getLast hne, by omega, e⟩
def splits (many amount : Nat) : List (List Nat) := (spl amount (many - 1)).map fun row => row ++ [amount - row.sum]
theorem splits_in {many amount : Nat} (h0 : 0 < many) (row : List Nat) : row ∈ splits many amount ↔ row.length = many ∧ row.sum = amount := by
  simp only [splits, List.mem_map]
  constructor
  · rintro ⟨r, hr, rfl⟩
    obtain ⟨h1, h2⟩ := (spl_in amount _ r).mp hr
    simp only [List.length_append, List.length_singleton, List.sum_append, List.sum_singleton]
    omega
  · rintro ⟨h1, h2⟩
    have hne : row ≠ [] := by rintro rfl; simp at h1; omega
    have e := List.dropLast_concat_getLast hne
    have hs : row.sum = row.dropLast.sum + row.getLast hne := by
      conv => lhs; rw [← e]
      simp
    refine ⟨row.dropLast, (spl_in amount _ _).mpr ⟨by rw [List.length_dropLast]; omega, by omega⟩, ?_⟩
    rw [show amount - row.dropLast.sum = row.getLast hne by omega]
    exact e
theorem spl_count (amount : Nat) : ∀ t, (spl amount t).length ≤ (amount + 1) ^ t
  | 0 => by simp [spl]
  | t + 1 => by
    have ih := spl_count amount t
    have key : ∀ rows : List (List Nat), (rows.flatMap fun row => (List.range (amount - row.sum + 1)).map fun part => row ++ [part]).length ≤ rows.length * (amount + 1) := by
      intro rows
      induction rows with
      | nil => simp
      | cons r rows ih =>
        rw [List.flatMap_cons, List.length_append, List.length_map, List.length_range, List.length_cons, Nat.succ_mul]
        omega
    rw [Nat.pow_succ]
    exact Nat.le_trans (key _) (Nat.mul_le_mul_right _ ih)
/-! ### how often -/
def putC : List (Nat × Nat) → Nat → List (Nat × Nat)
  | [], x => [(x, 1)]
  | (y, c) :: l, x => if y = x then (y, c + 1) :: l else (y, c) :: putC l x
def cnt (row : List Nat) : List (Nat × Nat) := row.foldl putC []
def kprod (g : Nat → Nat) : List (Nat × Nat) → Nat
  | [] => 1
  | p :: l => g p.2 * kprod g l
def look (x : Nat) : List (Nat × Nat) → Nat
  | [] => 0
  | (y, c) :: l => if y = x then c else look x l
theorem putC_keys (x : Nat) : ∀ l : List (Nat × Nat), (putC l x).map (·.1) = if x ∈ l.map (·.1) then l.map (·.1) else l.map (·.1) ++ [x]
  | [] => by simp [putC]
  | (y, c) :: l => by
    unfold putC
    have ih := putC_keys x l
    by_cases h : y = x
    · simp [h]
    · rw [if_neg h, List.map_cons, ih]
      show y :: (if x ∈ l.map (·.1) then l.map (·.1) else l.map (·.1) ++ [x]) = if x ∈ y :: l.map (·.1) then y :: l.map (·.1) else y :: l.map (·.1) ++ [x]
      by_cases h2 : x ∈ l.map (·.1)
      · rw [if_pos h2, if_pos (List.mem_cons_of_mem _ h2)]
      · rw [if_neg h2, if_neg (by intro h3; rcases List.mem_cons.mp h3 with h3 | h3; exact h h3.symm; exact h2 h3)]; rfl
theorem putC_look (x z : Nat) : ∀ l : List (Nat × Nat), look z (putC l x) = look z l + if z = x then 1 else 0
  | [] => by
    unfold putC look look
    by_cases h : x = z
    · simp [h]
    · rw [if_neg h, if_neg (fun e => h e.symm)]
      first | done | rfl
  | (y, c) :: l => by
    have ih := putC_look x z l
    unfold putC
    by_cases h : y = x
    · rw [if_pos h]
      unfold look
      by_cases h2 : y = z
      · rw [if_pos h2, if_pos h2, if_pos (by omega)]
      · rw [if_neg h2, if_neg h2, if_neg (by omega)]; rfl
    · rw [if_neg h]
      unfold look
      by_cases h2 : y = z
      · rw [if_pos h2, if_pos h2, if_neg (by omega)]; rfl
      · rw [if_neg h2, if_neg h2]; exact ih
theorem cnt_snoc (row : List Nat) (x : Nat) : cnt (row ++ [x]) = putC (cnt row) x := by
  unfold cnt
  rw [List.foldl_append]; rfl
theorem cnt_facts : ∀ row : List Nat, ((cnt row).map (·.1)).Nodup ∧ (∀ x, x ∈ (cnt row).map (·.1) ↔ x ∈ row) ∧ ∀ x, look x (cnt row) = row.count x := by
  intro row
  have key : ∀ n (row : List Nat), row.length = n → ((cnt row).map (·.1)).Nodup ∧ (∀ x, x ∈ (cnt row).map (·.1) ↔ x ∈ row) ∧ ∀ x, look x (cnt row) = row.count x := by
    intro n
    induction n with
    | zero =>
      intro row h
      obtain rfl := List.length_eq_zero_iff.mp h
      exact ⟨by simp [cnt], by simp [cnt], by simp [cnt, look]⟩
    | succ n ih =>
      intro row h
      have hne : row ≠ [] := by rintro rfl; simp at h
      have e := List.dropLast_concat_getLast hne
      obtain ⟨h1, h2, h3⟩ := ih row.dropLast (by rw [List.length_dropLast]; omega)
      rw [← e, cnt_snoc]
      refine ⟨?_, fun x => ?_, fun x => ?_⟩
      · rw [putC_keys]
        split
        · exact h1
        · rename_i hn
          rw [List.nodup_append]
          refine ⟨h1, by simp, fun a ha b hb => ?_⟩
          rw [List.mem_singleton] at hb
          rintro rfl
          subst hb
          exact hn ha
      · rw [putC_keys]
        split
        · rename_i hin
          rw [h2, List.mem_append, List.mem_singleton]
          constructor
          · exact Or.inl
          · rintro (h | rfl)
            · exact h
            · exact (h2 _).mp hin
        · rw [List.mem_append, List.mem_append, h2]
      · rw [putC_look, h3, List.count_append, List.count_singleton]
        by_cases hz : x = row.getLast hne
        · rw [if_pos hz]; simp [hz]
        · rw [if_neg hz]
          have : (row.getLast hne == x) = false := by simp; exact fun e => hz e.symm
          simp [this]
  exact key _ row rfl
theorem kprod_look (g : Nat → Nat) : ∀ l : List (Nat × Nat), (l.map (·.1)).Nodup → ∀ ks : List Nat, ks.Nodup → (∀ x, x ∈ ks ↔ x ∈ l.map (·.1)) → kprod g l = (ks.map fun x => g (look x l)).foldr (· * ·) 1 := by
  intro l
  induction l with
  | nil =>
    intro _ ks _ h
    have : ks = [] := List.eq_nil_iff_forall_not_mem.mpr fun x hx => by simpa using (h x).mp hx
    subst this; rfl
  | cons p l ih =>
    obtain ⟨y, c⟩ := p
    intro hn ks hk h
    rw [List.map_cons, List.nodup_cons] at hn
    have hy : y ∈ ks := (h y).mpr (by simp)
    obtain ⟨a, b, rfl⟩ := List.append_of_mem hy
    have hmul : ∀ a b : List Nat, (a ++ b).foldr (· * ·) 1 = a.foldr (· * ·) 1 * b.foldr (· * ·) 1 := by
      intro a b
      induction a with
      | nil => simp
      | cons x a ih => simp [List.foldr_cons, Nat.mul_assoc, ih]
    rw [List.nodup_append] at hk
    obtain ⟨ka, kb, kab⟩ := hk
    rw [List.nodup_cons] at kb
    have hya : y ∉ a := fun ha => kab y ha y (by simp) rfl
    have ih2 := ih hn.2 (a ++ b) (by rw [List.nodup_append]; exact ⟨ka, kb.2, fun x hx z hz => kab x hx z (List.mem_cons_of_mem _ hz)⟩) (by
      intro x
      have := h x
      rw [List.mem_append, List.mem_cons, List.map_cons, List.mem_cons] at this
      rw [List.mem_append]
      constructor
      · intro hx
        rcases this.mp (by rcases hx with hx | hx; exact .inl hx; exact .inr (.inr hx)) with rfl | hx2
        · rcases hx with hx | hx
          · exact absurd hx hya
          · exact absurd hx kb.1
        · exact hx2
      · intro hx
        rcases this.mpr (.inr hx) with h1 | rfl | h1
        · exact .inl h1
        · exact absurd hx hn.1
        · exact .inr h1)
    have hlook : ∀ x, x ∈ a ∨ x ∈ b → look x ((y, c) :: l) = look x l := by
      intro x hx
      have : ¬ y = x := by
        rintro rfl
        rcases hx with hx | hx
        · exact hya hx
        · exact kb.1 hx
      show (if y = x then c else look x l) = _
      rw [if_neg this]
    show g c * kprod g l = _
    rw [ih2, List.map_append, List.map_append, List.map_cons, hmul, hmul, List.foldr_cons]
    have m1 : (a.map fun x => g (look x ((y, c) :: l))) = a.map fun x => g (look x l) := List.map_congr_left fun x hx => by rw [hlook x (.inl hx)]
    have m2 : (b.map fun x => g (look x ((y, c) :: l))) = b.map fun x => g (look x l) := List.map_congr_left fun x hx => by rw [hlook x (.inr hx)]
    have m3 : look y ((y, c) :: l) = c := if_pos rfl
    rw [m1, m2, m3]
    ac_rfl
def mostP (many : Nat) (row : List Nat) : Nat := kprod (ppN many) (cnt row)
theorem mostP_rev (many : Nat) (row : List Nat) : mostP many row.reverse = mostP many row := by
  obtain ⟨a1, a2, a3⟩ := cnt_facts row.reverse
  obtain ⟨b1, b2, b3⟩ := cnt_facts row
  unfold mostP
  rw [kprod_look _ _ a1 ((cnt row).map (·.1)) b1 (fun x => by rw [b2, a2, List.mem_reverse]), kprod_look _ _ b1 _ b1 (fun _ => Iff.rfl)]
  congr 1
  refine List.map_congr_left fun x _ => ?_
  rw [a3, b3, List.count_reverse]
/-- the counts together are the length -/
theorem putC_sum (x : Nat) : ∀ l : List (Nat × Nat), ((putC l x).map (·.2)).sum = (l.map (·.2)).sum + 1
  | [] => by simp [putC]
  | (y, c) :: l => by
    unfold putC
    split
    · simp; omega
    · have := putC_sum x l
      simp only [List.map_cons, List.sum_cons]
      omega
theorem foldl_sum : ∀ (row : List Nat) (l : List (Nat × Nat)), ((row.foldl putC l).map (·.2)).sum = (l.map (·.2)).sum + row.length
  | [], l => by simp
  | x :: row, l => by
    rw [List.foldl_cons, foldl_sum row, putC_sum, List.length_cons]
    omega
theorem cnt_sum (row : List Nat) : ((cnt row).map (·.2)).sum = row.length := by
  have := foldl_sum row []
  simpa [cnt] using this
theorem putC_len (x : Nat) : ∀ l : List (Nat × Nat), (putC l x).length ≤ l.length + 1
  | [] => by simp [putC]
  | (y, c) :: l => by
    unfold putC
    split
    · simp
    · have := putC_len x l
      simp only [List.length_cons]
      omega
theorem foldl_len : ∀ (row : List Nat) (l : List (Nat × Nat)), (row.foldl putC l).length ≤ l.length + row.length
  | [], l => by simp
  | x :: row, l => by
    have h1 := foldl_len row (putC l x)
    have h2 := putC_len x l
    rw [List.foldl_cons, List.length_cons]
    omega
theorem kprod_app (g : Nat → Nat) : ∀ a b, kprod g (a ++ b) = kprod g a * kprod g b
  | [], b => (Nat.one_mul _).symm
  | p :: a, b => by show g p.2 * kprod g (a ++ b) = g p.2 * kprod g a * kprod g b; rw [kprod_app g a b, Nat.mul_assoc]
theorem kprod_small {many : Nat} (h0 : 0 < many) : ∀ l : List (Nat × Nat), (l.map (·.2)).sum ≤ 512 → kprod (ppN many) l ≤ 2 ^ (9 * (l.map (·.2)).sum)
  | [], _ => by simp [kprod]
  | p :: l, h => by
    rw [List.map_cons, List.sum_cons] at h
    have ih := kprod_small h0 l (by omega)
    rw [List.map_cons, List.sum_cons, Nat.mul_add, Nat.pow_add]
    exact Nat.mul_le_mul (pp_small h0 (by omega)) ih
end My

set_option Elab.async false
set_option linter.all false
set_option maxRecDepth 100000
set_option maxHeartbeats 4000000
namespace My
open PySem PySem.Spec PyProof.Rows L2 Evl
def top (i : Nat) : Stmt := PySem.Challenge.pw_unpressed_k66_power_products.main.body.getD i (.Pass ⟨0, 0, 0, 0⟩)
/-- the dict that tells how often -/
def cKV (l : List (Nat × Nat)) : List (Key × V) := l.map fun p => (Sum.inl (p.1 : Int), .int (p.2 : Int))
theorem cKV_at (x : Nat) : ∀ l : List (Nat × Nat), (valV (cKV l) (Sum.inl (x : Int))).getD (.int 0) = .int (look x l : Nat)
  | [] => rfl
  | (y, c) :: l => by
    have ih := cKV_at x l
    show (valV ((Sum.inl (y : Int), V.int (c : Int)) :: cKV l) (Sum.inl (x : Int))).getD (.int 0) = .int ((if y = x then c else look x l : Nat) : Int)
    by_cases h : y = x
    · rw [valV_pos (by rw [h]), if_pos h]; rfl
    · rw [valV_neg (by intro e; exact h (Int.ofNat.inj (Sum.inl.inj e))), if_neg h]; exact ih
theorem cKV_some {x : Nat} : ∀ {l : List (Nat × Nat)} {n c : Nat}, (l.map (·.1)).Nodup → l[n]? = some (x, c) → valV (cKV l) (Sum.inl (x : Int)) = some (.int (c : Int))
  | [], n, c, _, h => by simp at h
  | (y, b) :: l, n, c, hn, h => by
    rw [List.map_cons, List.nodup_cons] at hn
    show valV ((Sum.inl (y : Int), V.int (b : Int)) :: cKV l) (Sum.inl (x : Int)) = _
    cases n with
    | zero =>
      have e : (y, b) = (x, c) := by simpa using h
      cases e
      rw [valV_pos rfl]
    | succ n =>
      have h2 : l[n]? = some (x, c) := by simpa using h
      have hm : x ∈ l.map (·.1) := List.mem_map.mpr ⟨_, List.mem_of_getElem? h2, rfl⟩
      have hne : ¬ y = x := by rintro rfl; exact hn.1 hm
      rw [valV_neg (by intro e; exact hne (Int.ofNat.inj (Sum.inl.inj e)))]
      exact cKV_some hn.2 h2
theorem cKV_same (x : Nat) (v : V) : ∀ l : List (Nat × Nat), x ∉ l.map (·.1) → (cKV l).map (fun kv => if kv.1 = (Sum.inl (x : Int) : Key) then (kv.1, v) else kv) = cKV l
  | [], _ => rfl
  | (y, b) :: l, h => by
    rw [List.map_cons, List.mem_cons, not_or] at h
    have ih := cKV_same x v l h.2
    show (if (Sum.inl (y : Int) : Key) = Sum.inl (x : Int) then ((Sum.inl (y : Int) : Key), v) else (Sum.inl (y : Int), V.int (b : Int))) :: (cKV l).map _ = _
    rw [if_neg (by intro e; exact h.1 (Int.ofNat.inj (Sum.inl.inj e)).symm), ih]
    rfl
theorem cKV_repl (x : Nat) : ∀ l : List (Nat × Nat), (l.map (·.1)).Nodup → x ∈ l.map (·.1) → (cKV l).map (fun kv => if kv.1 = (Sum.inl (x : Int) : Key) then (kv.1, V.int ((look x l : Nat) + 1 : Int)) else kv) = cKV (putC l x)
  | [], _, h => by cases h
  | (y, b) :: l, hn, h => by
    rw [List.map_cons, List.nodup_cons] at hn
    by_cases hy : y = x
    · subst hy
      have e1 : look y ((y, b) :: l) = b := if_pos rfl
      have e2 : putC ((y, b) :: l) y = (y, b + 1) :: l := if_pos rfl
      rw [e1, e2]
      show (if (Sum.inl (y : Int) : Key) = Sum.inl (y : Int) then ((Sum.inl (y : Int) : Key), V.int ((b : Nat) + 1 : Int)) else (Sum.inl (y : Int), V.int (b : Int))) :: (cKV l).map _ = _
      rw [if_pos rfl, cKV_same y _ l hn.1]
      rfl
    · have h2 : x ∈ l.map (·.1) := by
        rcases List.mem_cons.mp h with h | h
        · exact absurd h.symm hy
        · exact h
      have e1 : look x ((y, b) :: l) = look x l := if_neg hy
      have e2 : putC ((y, b) :: l) x = (y, b) :: putC l x := if_neg hy
      rw [e1, e2]
      show (if (Sum.inl (y : Int) : Key) = Sum.inl (x : Int) then ((Sum.inl (y : Int) : Key), V.int ((look x l : Nat) + 1 : Int)) else (Sum.inl (y : Int), V.int (b : Int))) :: (cKV l).map _ = _
      rw [if_neg (by intro e; exact hy (Int.ofNat.inj (Sum.inl.inj e))), cKV_repl x l hn.2 h2]
      rfl
theorem putC_fresh (x : Nat) : ∀ l : List (Nat × Nat), x ∉ l.map (·.1) → look x l = 0 ∧ putC l x = l ++ [(x, 1)]
  | [], _ => ⟨rfl, rfl⟩
  | (y, c) :: l, h => by
    rw [List.map_cons, List.mem_cons, not_or] at h
    obtain ⟨h1, h2⟩ := putC_fresh x l h.2
    have hne : ¬ y = x := fun e => h.1 e.symm
    unfold look putC
    rw [if_neg hne, if_neg hne, h1, h2]
    exact ⟨rfl, rfl⟩
theorem cKV_put (x : Nat) (l : List (Nat × Nat)) (hn : (l.map (·.1)).Nodup) : putK (cKV l) (Sum.inl (x : Int)) (.int ((look x l : Nat) + 1 : Int)) = cKV (putC l x) := by
  unfold putK
  by_cases hx : x ∈ l.map (·.1)
  · rw [if_pos (by
      rw [List.any_eq_true]
      obtain ⟨p, hp, he⟩ := List.mem_map.mp hx
      exact ⟨_, List.mem_map.mpr ⟨p, hp, rfl⟩, by simp [he]⟩)]
    exact cKV_repl x l hn hx
  · obtain ⟨h1, h2⟩ := putC_fresh x l hx
    rw [if_neg (by
      rw [List.any_eq_true]
      rintro ⟨q, hq, he⟩
      obtain ⟨p, hp, rfl⟩ := List.mem_map.mp hq
      exact hx (List.mem_map.mpr ⟨p, hp, Int.ofNat.inj (Sum.inl.inj (of_decide_eq_true he))⟩)), h1, h2]
    unfold cKV
    rw [List.map_append]
    rfl
/-! ### a list of lists of numbers -/
def LL (H : Hp) : List Addr → List (List Nat) → Prop
  | [], [] => True
  | a :: as, r :: rs => H a = some (.lst (nV r)) ∧ LL H as rs
  | _, _ => False
theorem LL.ex {H H' : Hp} (e : Ex H H') : ∀ {as : List Addr} {rs : List (List Nat)}, LL H as rs → LL H' as rs
  | [], [], _ => trivial
  | a :: as, r :: rs, h => ⟨e _ _ h.1, LL.ex e h.2⟩
theorem LL.len {H : Hp} : ∀ {as : List Addr} {rs : List (List Nat)}, LL H as rs → as.length = rs.length
  | [], [], _ => rfl
  | a :: as, r :: rs, h => congrArg Nat.succ (LL.len h.2)
theorem LL.get {H : Hp} : ∀ {as : List Addr} {rs : List (List Nat)}, LL H as rs → ∀ {i : Nat} {x : V}, (as.map V.ref)[i]? = some x → ∃ a r, x = .ref a ∧ rs[i]? = some r ∧ H a = some (.lst (nV r))
  | [], [], _, i, x, h => by simp at h
  | a :: as, r :: rs, h, i, x, hx => by
    cases i with
    | zero =>
      have e : V.ref a = x := by simpa using hx
      exact ⟨a, r, e.symm, rfl, h.1⟩
    | succ i => exact LL.get h.2 (i := i) (by simpa using hx)
theorem LL.snoc {H : Hp} {a : Addr} {r : List Nat} (ha : H a = some (.lst (nV r))) : ∀ {as : List Addr} {rs : List (List Nat)}, LL H as rs → LL H (as ++ [a]) (rs ++ [r])
  | [], [], _ => ⟨ha, trivial⟩
  | b :: as, q :: rs, h => ⟨h.1, LL.snoc ha h.2⟩
/-- all but one list stay -/
theorem LL.but {H H' : Hp} {l : Addr} (e : ∀ b o, H b = some o → b ≠ l → H' b = some o) : ∀ {as : List Addr} {rs : List (List Nat)}, l ∉ as → LL H as rs → LL H' as rs
  | [], [], _, _ => trivial
  | a :: as, r :: rs, hn, h => ⟨e _ _ h.1 (fun z => hn (z ▸ List.mem_cons_self)), LL.but e (fun z => hn (List.mem_cons_of_mem _ z)) h.2⟩
theorem shaped_ints (l : List Int) : SeqAt.shaped (intsD l) = true := by
  have h : ∀ l : List Int, PyData.depthAll (l.map PyData.int) ≤ 10 := by
    intro l
    induction l with
    | nil => decide
    | cons i l ih =>
      simp only [List.map_cons, PyData.depthAll, PyData.depth] at ih ⊢
      omega
  have h2 : PyData.depth (intsD l) ≤ 64 := by
    have := h l
    unfold intsD
    simp only [PyData.depth]
    omega
  unfold SeqAt.shaped
  rw [show PyData.canLay0 (intsD l) = true from can_ints l, decide_eq_true h2]
  rfl
end My

set_option Elab.async false
set_option linter.all false
set_option maxRecDepth 100000
set_option maxHeartbeats 4000000
namespace My
open PySem PySem.Spec PyProof.Rows L2 Evl
section
variable {P : Program} {w : World} {K : PySem.W.Frag} {mg : Str → Option Value} {base : Heap}
/-! ### _law_whole -/
abbrev s_law_whole : Stmt := top 5
abbrev N_law_whole : List Str := ["value"]
theorem sc_law_whole : FnScope N_law_whole ["value"] (defScope s_law_whole) := ⟨rfl, rfl, rfl, by decide +kernel, rfl, by decide +kernel, by decide +kernel⟩
theorem ok_law_whole (T : TT mg) (F : At K mg "_law_whole" s_law_whole) : Dn P w K mg base 1 "_law_whole" s_law_whole ["value"] spWhole := by
  refine dn_ok F sc_law_whole (fun _ _ _ _ _ _ us hl => match us, hl with | [_], _ => rfl) (fun vs H Q E h => ?_) (fun f cdv A outer s H vs Q E hr h => ?_)
  · obtain ⟨m, rfl, _⟩ := h; rfl
  · obtain ⟨m, rfl, q⟩ := h
    refine ⟨_, (pss_one (ps_ret (pe_and (pe_callB call_isi (by rfl) T.isinstance (by decide +kernel) (pa_cons (pv 0) (pa_cons (pe_tyn "int" rfl T.int_ (by decide +kernel)) pa_nil))) (pe_one (pe_not (pe_callB call_isi (by rfl) T.isinstance (by decide +kernel) (pa_cons (pv 0) (pa_cons (pe_tyn "bool" rfl T.bool_ (by decide +kernel)) pa_nil)))))))), ?_⟩
    exact s_ret (v := .bl (true && !false)) (ev_andV (ev_isi (ev_var rfl) ev_c (ClsV.ty "int") (fun _ _ => .base (.int m)) kit_int_int) fun _ => ev_notV (ev_isi (ev_var rfl) ev_c (ClsV.ty "bool") (fun _ _ => .base (.int m)) kit_int_bool)) fun H1 e => q H1 e
/-! ### _law_cell -/
abbrev s_law_cell : Stmt := top 6
abbrev N_law_cell : List Str := ["script", "k", "seed", "cell"]
theorem sc_law_cell : FnScope N_law_cell ["script", "k"] (defScope s_law_cell) := ⟨rfl, rfl, rfl, by decide +kernel, rfl, by decide +kernel, by decide +kernel⟩
theorem ok_law_cell (T : TT mg) (F : At K mg "_law_cell" s_law_cell) : Dn P w K mg base 1 "_law_cell" s_law_cell ["script", "k"] (spCellF K) := by
  refine dn_ok F sc_law_cell (fun _ _ _ _ _ _ us hl => match us, hl with | [_, _], _ => rfl) (fun vs H Q E h => ?_) (fun f cdv A outer s H vs Q E hr h => ?_)
  · obtain ⟨a, ns, k, rfl, _⟩ := h; rfl
  · obtain ⟨a, ns, k, rfl, hS, hk, hk2, q⟩ := h
    refine ⟨_, (pss_cons (ps_if (pt_cmpR op_lt (pv 1) (pe_callB call_len_seq (by rfl) T.len boot_len (pa_cons (pv 0) pa_nil)) (nomark _)) (pss_one (ps_ret (pe_ix ix_list (pv 0) (pv 1) (fun _ _ => rfl)))) pss_nil)
      (pss_cons (ps_set (i := 2) sc_law_cell.nd rfl (Or.inl rfl) pe_int)
      (pss_cons (ps_for PassesOwn.never rfl (pi_list (pv 0)) (pg_name (i := 3) sc_law_cell.nd rfl (Or.inl rfl))
        (pss_one (ps_set (i := 2) sc_law_cell.nd rfl (Or.inl rfl) (pe_op op_mod (pe_callTy call_int1 (by rfl) T.int_ (by decide +kernel) (pa_cons (pe_op op_add (pe_op op_mul (pv 2) pe_int) (pe_op op_mod (pe_callTy call_int1 (by rfl) T.int_ (by decide +kernel) (pa_cons (pv 3) pa_nil)) pe_int)) pa_nil)) pe_int))))
      (pss_one (ps_ret (pe_op op_mod (pe_callTy call_int1 (by rfl) T.int_ (by decide +kernel) (pa_cons (pe_op op_mul (pe_op op_mul (pe_op op_add (pv 2) pe_int) (pe_op op_add (pv 1) pe_int)) pe_int) pa_nil)) pe_int)))))), ?_⟩
    refine q_when (et_test (ev_op (ev_var rfl) (ev_len (ev_var rfl) hS) rv_I0)) (fun hb H1 e1 => ?_) (fun hb H1 e1 => ?_)
    · have hlt : k < (ns.length : Int) := by
        have := of_decide_eq_true hb
        rw [List.length_map] at this
        exact this
      have hv : cellF ns k = ns.getD k.toNat 0 := if_pos hlt
      rw [hv] at q
      have hg : ns[k.toNat]? = some (ns.getD k.toNat 0) := by
        rw [List.getD_eq_getElem?_getD, List.getElem?_eq_getElem (by omega)]; rfl
      exact s_ret (ev_op (ev_var rfl) (ev_var rfl) (rv_ixL (ex_l e1 hS) (at_map hk hg))) fun H2 e2 => q H2 (e1.trans e2)
    · have hge : ¬ k < (ns.length : Int) := by
        have := of_decide_eq_false hb
        rw [List.length_map] at this
        exact this
      have hv : cellF ns k = ((seedF ns + 7) * (k + 3) * 69621) % 2147483647 := if_neg hge
      rw [hv] at q
      refine q_asg ev_c fun H2 e2 => ?_
      refine q_forLn (ev_var rfl) (ex_l (e1.trans e2) hS) (fun i σ' H' => ∃ (sd : Int) (v : Option V), σ' = [some (.ref a), some (.int k), some (.int sd), v] ∧ Ex H H' ∧ 0 ≤ sd ∧ sd < 1000003 ∧ (ns.drop i).foldl (fun s c => (s * 31 + c % 1000003) % 1000003) sd = seedF ns)
        (fun H3 e3 => ⟨17, none, rfl, (e1.trans e2).trans e3, by decide, by decide, rfl⟩) (fun i σ' H' _ ⟨_, _, _, e, _⟩ => ex_l e hS) ?_ ?_
      · rintro i x σ' H' hx ⟨sd, v, rfl, e, h0, h1, hf⟩
        obtain ⟨z, hz, rfl⟩ := get_map hx
        rw [drop_get hz, List.foldl_cons] at hf
        refine s_asg (ev_op (ev_int (ev_op (ev_op (ev_var rfl) ev_c (rv_I (by unfold CMul; omega))) (ev_op (ev_int (ev_var rfl)) ev_c (rv_I (by decide))) rv_I0)) ev_c (rv_I (by decide))) fun H4 e4 => ?_
        exact ⟨_, _, rfl, e.trans e4, Int.emod_nonneg _ (by decide), Int.emod_lt_of_pos _ (by decide), hf⟩
      · rintro σ' H' ⟨sd, v, rfl, e, h0, h1, hf⟩
        rw [List.length_map, List.drop_length] at hf
        have hsd : sd = seedF ns := hf
        subst hsd
        exact s_ret (ev_op (ev_int (ev_op (ev_op (ev_op (ev_var rfl) ev_c rv_I0) (ev_op (ev_var rfl) ev_c rv_I0) (rv_I (by unfold CMul; omega))) ev_c (rv_I (by unfold CMul; omega)))) ev_c (rv_I (by decide))) fun H4 e4 => q H4 (e.trans e4)
/-! ### _law_digits -/
abbrev s_law_digits : Stmt := top 7
abbrev N_law_digits : List Str := ["cell", "sizes", "row", "rest", "seed", "k", "size", "twice"]
theorem sc_law_digits : FnScope N_law_digits ["cell", "sizes"] (defScope s_law_digits) := ⟨rfl, rfl, rfl, by decide +kernel, rfl, by decide +kernel, by decide +kernel⟩
theorem ok_law_digits (T : TT mg) (F : At K mg "_law_digits" s_law_digits) : Dn P w K mg base 1 "_law_digits" s_law_digits ["cell", "sizes"] (spDigits K) := by
  refine dn_ok F sc_law_digits (fun _ _ _ _ _ _ us hl => match us, hl with | [_, _], _ => rfl) (fun vs H Q E h => ?_) (fun f cdv A outer s H vs Q E hr h => ?_)
  · obtain ⟨c, b, ss, rfl, _⟩ := h; rfl
  · obtain ⟨c, b, ss, rfl, hS, ⟨hlen, hss⟩, q⟩ := h
    refine ⟨_, (pss_cons (ps_set (i := 2) sc_law_digits.nd rfl (Or.inl rfl) (pe_lst pa_nil))
      (pss_cons (ps_set (i := 3) sc_law_digits.nd rfl (Or.inl rfl) (pe_callTy call_int1 (by rfl) T.int_ (by decide +kernel) (pa_cons (pv 0) pa_nil)))
      (pss_cons (ps_if (pt_cmpR op_ge (pv 3) (pe_op op_pow pe_int pe_int) (nomark _)) (pss_cons (ps_set (i := 3) sc_law_digits.nd rfl (Or.inl rfl) (pe_op op_sub (pv 3) (pe_op op_pow pe_int pe_int)))
        (pss_cons (ps_for PassesOwn.never rfl (pi_list (pv 1)) (pg_name (i := 6) sc_law_digits.nd rfl (Or.inl rfl))
          (pss_cons (ps_expr (pe_bm PySem.F.plainAttrs_list PySem.F.slot_list_append PySem.F.type_list_append mt_append (pv 2) (pa_cons (pe_op op_mod (pe_callTy call_int1 (by rfl) T.int_ (by decide +kernel) (pa_cons (pv 3) pa_nil)) (pv 6)) pa_nil)))
            (pss_one (ps_set (i := 3) sc_law_digits.nd rfl (Or.inl rfl) (pe_op op_fdivW (pe_callTy call_int1 (by rfl) T.int_ (by decide +kernel) (pa_cons (pv 3) pa_nil)) (pv 6))))))
        (pss_one (ps_ret (pv 2))))) pss_nil)
      (pss_cons (ps_set (i := 4) sc_law_digits.nd rfl (Or.inl rfl) (pe_op op_mod (pe_callTy call_int1 (by rfl) T.int_ (by decide +kernel) (pa_cons (pv 3) pa_nil)) pe_int))
      (pss_cons (ps_for PassesOwn.never rfl (pi_range1 (by rfl) T.range (pa_cons (pe_callB call_len_seq (by rfl) T.len boot_len (pa_cons (pv 1) pa_nil)) pa_nil)) (pg_name (i := 5) sc_law_digits.nd rfl (Or.inl rfl))
        (pss_cons (ps_set (i := 4) sc_law_digits.nd rfl (Or.inl rfl) (pe_op op_mod (pe_callTy call_int1 (by rfl) T.int_ (by decide +kernel) (pa_cons (pe_op op_add (pe_op op_add (pe_op op_mul (pv 4) pe_int) (pe_op op_mul pe_int (pv 5))) pe_int) pa_nil)) pe_int))
          (pss_cons (ps_set (i := 7) sc_law_digits.nd rfl (Or.inl rfl) (pe_op op_mod (pe_callTy call_int1 (by rfl) T.int_ (by decide +kernel) (pa_cons (pe_op op_mul (pv 4) (pe_op op_add (pe_op op_fdiv (pv 4) pe_int) pe_int)) pa_nil)) pe_int))
          (pss_one (ps_expr (pe_bm PySem.F.plainAttrs_list PySem.F.slot_list_append PySem.F.type_list_append mt_append (pv 2) (pa_cons (pe_op op_mod (pe_op op_fdiv (pv 7) pe_int) (pe_ix ix_list (pv 1) (pv 5) (fun _ _ => rfl))) pa_nil)))))))
      (pss_one (ps_ret (pv 2)))))))), ?_⟩
    have e18 : (10 : Int) ^ (Int.toNat 18) = 1000000000000000000 := by decide
    have c18 : CPow 10 18 := by unfold CPow; decide
    refine q_asgL (el_lst ea_nil (by decide)) fun l H1 nl e1 h1 => ?_
    refine q_asg (ev_int (ev_var rfl)) fun H2 e2 => ?_
    refine q_when (et_test (ev_op (ev_var rfl) (ev_op ev_c ev_c (rv_I c18)) rv_I0)) (fun hb H3 e3 => ?_) (fun hb H3 e3 => ?_)
    · have hge : 1000000000000000000 ≤ c := by
        have := of_decide_eq_true hb
        rw [e18] at this
        exact this
      have hv : digitsF c ss = digA (c - 1000000000000000000) ss := if_pos hge
      rw [hv] at q
      refine q_asg (ev_op (ev_var rfl) (ev_op ev_c ev_c (rv_I c18)) rv_I0) fun H4 e4 => ?_
      have e14 : Ex H H4 := ((e1.trans e2).trans e3).trans e4
      refine q_forLn (ev_var rfl) (ex_l e14 hS) (fun i σ' H' => ∃ (r : Int) (done : List Int) (v : Option V), σ' = [some (.int c), some (.ref b), some (.ref l), some (.int r), none, none, v, none] ∧ Ex H H' ∧ H' l = some (.lst (done.map V.int)) ∧ done.length = i ∧ done ++ digA r (ss.drop i) = digA (c - 1000000000000000000) ss)
        (fun H5 e5 => ⟨_, [], none, rfl, e14.trans e5, e5 l _ (e4 l _ (e3 l _ (e2 l _ h1))), rfl, by rw [e18]; rfl⟩) (fun i σ' H' _ ⟨_, _, _, _, e, _⟩ => ex_l e hS) ?_ ?_
      · rintro i x σ' H' hx ⟨r, done, v, rfl, e, hl, hd, hf⟩
        obtain ⟨z, hz, rfl⟩ := get_map hx
        have hi := (List.getElem?_eq_some_iff.mp hz).1
        obtain ⟨z0, z1⟩ := hss z (List.mem_of_getElem? hz)
        rw [drop_get hz] at hf
        refine q_app hl (ev_var rfl) (ev_op (ev_int (ev_var rfl)) (ev_var rfl) (rv_I z0)) (by rw [List.length_map]; omega) fun H5 e5 => ?_
        refine s_asg (ev_op (ev_int (ev_var rfl)) (ev_var rfl) (rv_I (divw z0 z1))) fun H6 e6 => ?_
        refine ⟨r / z, done ++ [r % z], _, rfl, (Ex.mut (e.trans e5) nl).trans e6, ?_, by rw [List.length_append]; simp [hd], ?_⟩
        · rw [List.map_append]
          exact e6 l _ upd_same
        · rw [List.append_assoc]
          exact hf
      · rintro σ' H' ⟨r, done, v, rfl, e, hl, hd, hf⟩
        rw [List.length_map, List.drop_length] at hf
        have hf2 : done = digA (c - 1000000000000000000) ss := by rw [← hf]; simp [digA]
        subst hf2
        exact s_ret (ev_var rfl) fun H5 e5 => q l H5 nl (e.trans e5) (e5 l _ hl)
    · have hlt : ¬ 1000000000000000000 ≤ c := by
        have := of_decide_eq_false hb
        rw [e18] at this
        exact this
      have hv : digitsF c ss = digB (c % 2147483629) 0 ss := if_neg hlt
      rw [hv] at q
      refine q_asg (ev_op (ev_int (ev_var rfl)) ev_c (rv_I (by decide))) fun H4 e4 => ?_
      have e14 : Ex H H4 := ((e1.trans e2).trans e3).trans e4
      refine q_forR1 (ea_cons (ev_len (ev_var rfl) (ex_l e14 hS)) ea_nil) ⟨by omega, by rw [List.length_map]; omega⟩ (fun i σ' H' => ∃ (sd : Int) (done : List Int) (v u : Option V), σ' = [some (.int c), some (.ref b), some (.ref l), some (.int c), some (.int sd), v, none, u] ∧ Ex H H' ∧ H' l = some (.lst (done.map V.int)) ∧ done.length = i ∧ 0 ≤ sd ∧ sd < 2147483647 ∧ done ++ digB sd i (ss.drop i) = digB (c % 2147483629) 0 ss)
        (fun H5 e5 => ⟨_, [], none, none, rfl, e14.trans e5, e5 l _ (e4 l _ (e3 l _ (e2 l _ h1))), rfl, Int.emod_nonneg _ (by decide), Int.lt_trans (Int.emod_lt_of_pos _ (by decide)) (by decide), rfl⟩) ?_ ?_
      · rintro i σ' H' hi ⟨sd, done, v, u, rfl, e, hl, hd, h0, h1', hf⟩
        rw [List.length_map] at hi
        obtain ⟨z, hz⟩ : ∃ z, ss[i]? = some z := ⟨_, List.getElem?_eq_getElem (by omega)⟩
        obtain ⟨z0, z1⟩ := hss z (List.mem_of_getElem? hz)
        rw [drop_get hz] at hf
        have hm : 0 ≤ (sd * 48271 + 974711 * (i : Int) + 12345) % 2147483647 := Int.emod_nonneg _ (by decide)
        have hm2 : (sd * 48271 + 974711 * (i : Int) + 12345) % 2147483647 < 2147483647 := Int.emod_lt_of_pos _ (by decide)
        refine q_asg (ev_op (ev_int (ev_op (ev_op (ev_op (ev_var rfl) ev_c (rv_I (by unfold CMul; omega))) (ev_op ev_c (ev_var rfl) (rv_I (by unfold CMul; omega))) rv_I0) ev_c rv_I0)) ev_c (rv_I (by decide))) fun H5 e5 => ?_
        refine q_asg (ev_op (ev_int (ev_op (ev_var rfl) (ev_op (ev_op (ev_var rfl) ev_c (rv_I (by unfold CDiv; decide))) ev_c rv_I0) (rv_I (by unfold CMul; omega)))) ev_c (rv_I (by decide))) fun H6 e6 => ?_
        have e16 : Ex H H6 := (e.trans e5).trans e6
        refine s_app (e6 l _ (e5 l _ hl)) (ev_var rfl) (ev_op (ev_op (ev_var rfl) ev_c (rv_I (by unfold CDiv; decide))) (ev_op (ev_var rfl) (ev_var rfl) (rv_ixL (ex_l e16 hS) (at_map (by omega) (by simpa using hz)))) (rv_I z0)) (by rw [List.length_map]; omega) fun H7 e7 => ?_
        refine ⟨_, done ++ [(sd * 48271 + 974711 * (i : Int) + 12345) % 2147483647 * ((sd * 48271 + 974711 * (i : Int) + 12345) % 2147483647 / 65537 + 3) % 2147483629 / 19 % z], _, _, rfl, Ex.mut (e16.trans e7) nl, ?_, by rw [List.length_append]; simp [hd], hm, hm2, ?_⟩
        · rw [List.map_append]
          exact upd_same
        · rw [List.append_assoc]
          exact hf
      · rintro σ' H' ⟨sd, done, v, u, rfl, e, hl, hd, h0, h1', hf⟩
        have en : ((ss.map V.int).length : Int).toNat = ss.length := by simp
        rw [en, List.drop_length] at hf
        have hf2 : done = digB (c % 2147483629) 0 ss := by rw [← hf]; simp [digB]
        subst hf2
        exact s_ret (ev_var rfl) fun H5 e5 => q l H5 nl (e.trans e5) (e5 l _ hl)
end

def HG : Nat := 2 ^ 10000
theorem lt_HG {n : Nat} (h : n < 10000) : 2 ^ n < HG := Nat.pow_lt_pow_right (by decide) h
section
variable {P : Program} {w : World} {K : PySem.W.Frag} {mg : Str → Option Value} {base : Heap}
/-! ### the program -/
abbrev s_power : Stmt := top 3
abbrev N_power : List Str := ["base", "exponent", "power", "_"]
theorem sc_power : FnScope N_power ["base", "exponent"] (defScope s_power) := ⟨rfl, rfl, rfl, by decide +kernel, rfl, by decide +kernel, by decide +kernel⟩
def spPow : Sp := fun vs H Q _ => ∃ b n : Nat, vs = [.int (b : Int), .int (n : Int)] ∧ (1 ≤ b ∨ n = 0) ∧ n ≤ 1000 ∧ b ^ n < HG ∧ RetV (.int ((b ^ n : Nat) : Int)) H Q
theorem sv_pow {b n : Nat} {H : Hp} (h1 : 1 ≤ b ∨ n = 0) (hn : n ≤ 1000) (hb : b ^ n < HG) : SpV spPow [.int (b : Int), .int (n : Int)] H (.int ((b ^ n : Nat) : Int)) := fun _ _ _ q _ => ⟨b, n, rfl, h1, hn, hb, q⟩
theorem ok_power (T : TT mg) (F : At K mg "_power" s_power) : Dn P w K mg base 1 "_power" s_power ["base", "exponent"] spPow := by
  refine dn_ok F sc_power (fun _ _ _ _ _ _ us hl => match us, hl with | [_, _], _ => rfl) (fun vs H Q E h => ?_) (fun f cdv A outer t H vs Q E hr h => ?_)
  · obtain ⟨b, n, rfl, _⟩ := h; rfl
  · obtain ⟨b, n, rfl, h1, hn, hb, q⟩ := h
    refine ⟨_, (pss_cons (ps_set (i := 2) sc_power.nd rfl (Or.inl rfl) pe_int)
      (pss_cons (ps_for PassesOwn.never rfl (pi_range1 (by rfl) T.range (pa_cons (pv 1) pa_nil)) (pg_name (i := 3) sc_power.nd rfl (Or.inl rfl))
        (pss_one (ps_aug (i := 2) sc_power.nd rfl (Or.inl rfl) (pv 0) (pip_of iop_mulW))))
      (pss_one (ps_ret (pv 2))))), ?_⟩
    refine q_asg (v := .int ((b ^ 0 : Nat) : Int)) (ev_is ev_c rfl) fun H1 e1 => ?_
    refine q_forR1 (ea_cons (ev_var rfl) ea_nil) ⟨by omega, by omega⟩ (fun i σ' H' => ∃ v : Option V, σ' = [some (.int (b : Int)), some (.int (n : Int)), some (.int ((b ^ i : Nat) : Int)), v] ∧ Ex H H') (fun H2 e2 => ⟨none, rfl, e1.trans e2⟩) ?_ ?_
    · rintro i σ' H' hi ⟨v, rfl, e⟩
      have hi' : i < n := by omega
      have hb1 : 1 ≤ b := by omega
      have s1 : b ^ i < HG := Nat.lt_of_le_of_lt (Nat.pow_le_pow_right hb1 (by omega)) hb
      have s2 : b < HG := Nat.lt_of_le_of_lt (by have := Nat.pow_le_pow_right hb1 (show 1 ≤ n by omega); rwa [Nat.pow_one] at this) hb
      refine s_augR rfl (ev_var rfl) (rv_I (wide_mul (a := 10000) (b := 10000) (by rw [Int.natAbs_natCast]; exact s1) (by rw [Int.natAbs_natCast]; exact s2) (by decide) (by decide) (by decide))) fun H2 e2 => ?_
      refine ⟨some (.int (i : Int)), ?_, e.trans e2⟩
      rw [Nat.pow_succ, Int.natCast_mul]
      rfl
    · rintro σ' H' ⟨v, rfl, e⟩
      have en : ((n : Nat) : Int).toNat = n := by omega
      refine s_ret (ev_var rfl) fun H2 e2 => ?_
      rw [en]
      exact q H2 (e.trans e2)
theorem ff_lt {n : Nat} (h : n ≤ 520) : ff n < HG := by
  have : ff n ≤ 1024 ^ n := Nat.pow_le_pow_left (by omega) n
  refine Nat.lt_of_le_of_lt this ?_
  rw [show (1024 : Nat) = 2 ^ 10 by rfl, ← Nat.pow_mul]
  exact lt_HG (by omega)
abbrev s_power_product : Stmt := top 1
abbrev N_power_product : List Str := ["standings", "count", "part", "greater"]
theorem sc_power_product : FnScope N_power_product ["standings", "count"] (defScope s_power_product) := ⟨rfl, rfl, rfl, by decide +kernel, rfl, by decide +kernel, by decide +kernel⟩
def spPP : Sp := fun vs H Q _ => ∃ m a : Nat, vs = [.int (m : Int), .int (a : Int)] ∧ 1 ≤ m ∧ m ≤ 500 ∧ a ≤ 512 ∧ RetV (.int ((ppN m a : Nat) : Int)) H Q
theorem sv_pp {m a : Nat} {H : Hp} (h1 : 1 ≤ m) (h2 : m ≤ 500) (h3 : a ≤ 512) : SpV spPP [.int (m : Int), .int (a : Int)] H (.int ((ppN m a : Nat) : Int)) := fun _ _ _ q _ => ⟨m, a, rfl, h1, h2, h3, q⟩
theorem ok_power_product (D_power : Dn P w K mg base 1 "_power" s_power ["base", "exponent"] spPow) (hDM : mg "divmod" = none) (F : At K mg "power_product" s_power_product) : Dn P w K mg base 2 "power_product" s_power_product ["standings", "count"] spPP := by
  refine dn_ok F sc_power_product (fun _ _ _ _ _ _ us hl => match us, hl with | [_, _], _ => rfl) (fun vs H Q E h => ?_) (fun f cdv A outer t H vs Q E hr h => ?_)
  · obtain ⟨m, a, rfl, _⟩ := h; rfl
  · obtain ⟨m, a, rfl, h1, h2, h3, q⟩ := h
    refine ⟨_, (pss_cons (ps_asg (pe_callB call_divmod (by rfl) hDM (by decide +kernel) (pa_cons (pv 1) (pa_cons (pv 0) pa_nil))) (pg_tup rfl (pgs_cons (pg_name (i := 2) sc_power_product.nd rfl (Or.inl rfl)) (pgs_cons (pg_name (i := 3) sc_power_product.nd rfl (Or.inl rfl)) pgs_nil))))
      (pss_one (ps_ret (pe_op op_mulW (pe_dn D_power hr (by decide) rfl (pa_cons (pe_dn D_power hr (by decide) rfl (pa_cons (pv 2) (pa_cons (pv 2) pa_nil))) (pa_cons (pe_op op_sub (pv 0) (pv 3)) pa_nil))) (pe_dn D_power hr (by decide) rfl (pa_cons (pe_dn D_power hr (by decide) rfl (pa_cons (pe_op op_add (pv 2) pe_int) (pa_cons (pe_op op_add (pv 2) pe_int) pa_nil))) (pa_cons (pv 3) pa_nil))))))), ?_⟩
    have hdm : a / m ≤ 512 := Nat.le_trans (Nat.div_le_self a m) h3
    refine q_asgT2 (eu_divmod (ev_var rfl) (ev_var rfl) ⟨by omega, by omega⟩) fun H1 e1 => ?_
    show tRet _ _ [some (.int (m : Int)), some (.int (a : Int)), some (.int ((a / m : Nat) : Int)), some (.int ((a % m : Nat) : Int))] _
    have hr0 := Nat.mod_lt a h1
    have hq := hdm
    have hsm := pp_small h1 h3
    have hlt : (2 : Nat) ^ (9 * a) < HG := Nat.pow_lt_pow_right (by decide) (by omega)
    unfold ppN at hsm q
    generalize a / m = qq at *
    generalize hrr : a % m = rr at *
    have p1 : 0 < ff (qq) ^ (m - rr) := Nat.pow_pos (ff_pos _)
    have p2 : 0 < ff (qq + 1) ^ (rr) := Nat.pow_pos (ff_pos _)
    have b1 : ff (qq) ^ (m - rr) < HG := Nat.lt_of_le_of_lt (Nat.le_trans (Nat.le_mul_of_pos_right _ p2) hsm) hlt
    have b2 : ff (qq + 1) ^ (rr) < HG := Nat.lt_of_le_of_lt (Nat.le_trans (Nat.le_mul_of_pos_left _ p1) hsm) hlt
    have esub : (m : Int) - ((rr : Nat) : Int) = ((m - rr : Nat) : Int) := by omega
    have eadd : ((qq : Nat) : Int) + 1 = ((qq + 1 : Nat) : Int) := by omega
    refine s_ret (v := .int ((ff (qq) ^ (m - rr) * ff (qq + 1) ^ (rr) : Nat) : Int)) (ev_is (ev_op (ev_call (ea_cons (ev_call (ea_cons (ev_var rfl) (ea_cons (ev_var rfl) ea_nil)) (sv_pow (b := qq) (n := qq) (by omega) (by omega) (ff_lt (by omega)))) (ea_cons (ev_is (ev_op (ev_var rfl) (ev_var rfl) rv_I0) (congrArg V.int esub)) ea_nil)) (sv_pow (b := ff (qq)) (Or.inl (ff_pos _)) (by omega) b1))
      (ev_call (ea_cons (ev_call (ea_cons (ev_is (ev_op (ev_var rfl) ev_c rv_I0) (congrArg V.int eadd)) (ea_cons (ev_is (ev_op (ev_var rfl) ev_c rv_I0) (congrArg V.int eadd)) ea_nil)) (sv_pow (b := qq + 1) (n := qq + 1) (by omega) (by omega) (ff_lt (by omega)))) (ea_cons (ev_var rfl) ea_nil)) (sv_pow (b := ff (qq + 1)) (Or.inl (ff_pos _)) (by omega) b2))
      (rv_I (wide_mul (a := 10000) (b := 10000) (by rw [Int.natAbs_natCast]; exact b1) (by rw [Int.natAbs_natCast]; exact b2) (by decide) (by decide) (by decide)))) (congrArg V.int (Int.natCast_mul _ _).symm)) fun H2 e2 => q H2 (e1.trans e2)
theorem kd_pp (D : Dn P w K mg base 2 "power_product" s_power_product ["standings", "count"] spPP) : Kd P w K mg base 2 "power_product" 0 ["standings", "count"] (fun _ zs => zs) spPP :=
  kd_of D 0 ["standings", "count"] (fun _ ws => ws) (fun _ zs => zs) (fun _ _ _ _ _ _ us ws h1 h2 => match us, ws, h1, h2 with | [], [_, _], _, _ => rfl) (fun _ r => r)
theorem line600 : 600 < sizeLine := by rw [sizeLine_eq]; decide
theorem cKV_len (l : List (Nat × Nat)) : (cKV l).length = l.length := List.length_map _
theorem cnt_len (row : List Nat) : (cnt row).length ≤ row.length := by
  have := foldl_len row []
  rw [List.length_nil, Nat.zero_add] at this
  exact this
theorem cnt_step {row : List Nat} {i z : Nat} (h : row[i]? = some z) : putK (cKV (cnt (row.take i))) (Sum.inl (z : Int)) (.int ((look z (cnt (row.take i)) : Nat) + 1 : Int)) = cKV (cnt (row.take (i + 1))) := by
  rw [cKV_put _ _ (cnt_facts _).1, ← cnt_snoc]
  obtain ⟨hi, he⟩ := List.getElem?_eq_some_iff.mp h
  rw [List.take_succ_eq_append_getElem hi, he]
theorem cKV_get {l : List (Nat × Nat)} {n : Nat} {k : Key} {z : V} (h : (cKV l)[n]? = some (k, z)) : ∃ x c, l[n]? = some (x, c) ∧ k = Sum.inl (x : Int) ∧ z = .int (c : Int) := by
  unfold cKV at h
  rw [List.getElem?_map] at h
  cases e : l[n]? with
  | none => rw [e] at h; cases h
  | some p =>
    rw [e] at h
    have h2 := Option.some.inj h
    exact ⟨p.1, p.2, rfl, (Prod.mk.inj h2).1.symm, (Prod.mk.inj h2).2.symm⟩
theorem kprod_step (g : Nat → Nat) {l : List (Nat × Nat)} {n x c : Nat} (h : l[n]? = some (x, c)) : kprod g (l.take (n + 1)) = kprod g (l.take n) * g c := by
  obtain ⟨hi, he⟩ := List.getElem?_eq_some_iff.mp h
  rw [List.take_succ_eq_append_getElem hi, he, kprod_app]
  show _ * (g c * 1) = _
  rw [Nat.mul_one]
theorem take_sum_le (l : List (Nat × Nat)) (n : Nat) : ((l.take n).map (·.2)).sum ≤ (l.map (·.2)).sum := by
  conv => rhs; rw [← List.take_append_drop n l]
  rw [List.map_append, List.sum_append]
  omega
theorem kprod_lt {m : Nat} (h : 1 ≤ m) {row : List Nat} (hr : row.length ≤ 512) (n : Nat) : kprod (ppN m) ((cnt row).take n) < HG := by
  have h1 := take_sum_le (cnt row) n
  rw [cnt_sum] at h1
  refine Nat.lt_of_le_of_lt (kprod_small h _ (by omega)) (lt_HG (by omega))
theorem cnt_small {row : List Nat} {n x c : Nat} (h : (cnt row)[n]? = some (x, c)) : c ≤ row.length := by
  have h1 := cnt_sum row
  have h2 : c ∈ (cnt row).map (·.2) := List.mem_map.mpr ⟨_, List.mem_of_getElem? h, rfl⟩
  have : ∀ l : List Nat, c ∈ l → c ≤ l.sum := by
    intro l
    induction l with
    | nil => intro h; cases h
    | cons a l ih =>
      intro h
      rw [List.sum_cons]
      rcases List.mem_cons.mp h with rfl | h
      · omega
      · have := ih h; omega
  have := this _ h2
  omega
theorem pp_lt10 {m a : Nat} (h : 1 ≤ m) (ha : a ≤ 512) : ppN m a < HG := Nat.lt_of_le_of_lt (pp_small h ha) (lt_HG (by omega))
abbrev s_most_chance : Stmt := top 2
abbrev N_most_chance : List Str := ["standings", "lengths", "counts", "length", "bottom"]
theorem sc_most_chance : FnScope N_most_chance ["standings", "lengths"] (defScope s_most_chance) := ⟨rfl, rfl, rfl, by decide +kernel, rfl, by decide +kernel, by decide +kernel⟩
def spMC (K : PySem.W.Frag) : Sp := fun vs H Q _ => ∃ (m : Nat) (p : Addr) (row : List Nat), vs = [.int (m : Int), .ref p] ∧ (SqL K H p (nV row) ∨ SqT K H p (nV row)) ∧ 1 ≤ m ∧ m ≤ 500 ∧ row.length ≤ 512 ∧ RetU [.int 1, .int ((mostP m row : Nat) : Int)] H Q
theorem su_mc {m : Nat} {p : Addr} {row : List Nat} {H : Hp} (hS : SqL K H p (nV row) ∨ SqT K H p (nV row)) (h1 : 1 ≤ m) (h2 : m ≤ 500) (h3 : row.length ≤ 512) : SpU (spMC K) [.int (m : Int), .ref p] H [.int 1, .int ((mostP m row : Nat) : Int)] := fun _ e _ q _ =>
  ⟨m, p, row, rfl, by rcases hS with hS | hS; exact .inl (ex_l e hS); exact .inr (ex_t e hS), h1, h2, h3, q⟩
theorem ok_most_chance (D_power_product : Dn P w K mg base 2 "power_product" s_power_product ["standings", "count"] spPP) (F : At K mg "most_chance" s_most_chance) : Dn P w K mg base 3 "most_chance" s_most_chance ["standings", "lengths"] (spMC K) := by
  refine dn_ok F sc_most_chance (fun _ _ _ _ _ _ us hl => match us, hl with | [_, _], _ => rfl) (fun vs H Q E h => ?_) (fun f cdv A outer t H vs Q E hr h => ?_)
  · obtain ⟨m, p, row, rfl, _⟩ := h; rfl
  · obtain ⟨m, p, row, rfl, hS, h1, h2, h3, q⟩ := h
    have hln := line600
    have hcl := cnt_len row
    rcases hS with hS | hS
    · refine ⟨_, (pss_cons (ps_set (i := 2) sc_most_chance.nd rfl (Or.inl rfl) pe_dnewK)
      (pss_cons (ps_for PassesOwn.never rfl (pi_list (pv 1)) (pg_name (i := 3) sc_most_chance.nd rfl (Or.inl rfl))
        (pss_one (ps_dput (hu_of hr) (pv 2) (pv 3) (pe_op op_add (pe_dget2 (hu_of hr) (pv 2) (pv 3) pe_int ⟨rfl, rfl, rfl, rfl⟩) pe_int) rfl)))
      (pss_cons (ps_set (i := 4) sc_most_chance.nd rfl (Or.inl rfl) pe_int)
      (pss_cons (ps_lock (ps_for PassesOwn.never rfl (pi_keys (pv 2)) (pg_name (i := 3) sc_most_chance.nd rfl (Or.inl rfl))
        (pss_one (ps_aug (i := 4) sc_most_chance.nd rfl (Or.inl rfl) (pe_dn D_power_product hr (by decide) rfl (pa_cons (pv 0) (pa_cons (pe_dget (hu_of hr) (pv 2) (pv 3) (fun _ _ => rfl)) pa_nil))) (pip_of iop_mulW)))))
      (pss_one (ps_ret (pe_tup (pa_cons pe_int (pa_cons (pv 4) pa_nil))))))))), ?_⟩
      refine q_asgD fun d H1 nd e1 hd1 => ?_
      refine q_forLn (ev_var rfl) (ex_l e1 hS) (fun i σ' H' => ∃ v : Option V, σ' = [some (.int (m : Int)), some (.ref p), some (.ref d), v, none] ∧ Ex H H' ∧ H' d = some (.dK (cKV (cnt (row.take i))))) (fun H2 e2 => ⟨none, rfl, e1.trans e2, e2 _ _ hd1⟩) (fun i σ' H' _ ⟨_, _, e, _⟩ => ex_l e hS) ?_ ?_
      · rintro i x σ' H' hx ⟨v, rfl, e, hd⟩
        obtain ⟨z, hz, rfl⟩ := get_nV hx
        show sDPut _ _ _ _ [some (.int (m : Int)), some (.ref p), some (.ref d), some (.int (z : Int)), none] _
        have hl : (cKV (cnt (row.take i))).length < sizeLine := by
          have := cnt_len (row.take i)
          rw [cKV_len]
          rw [List.length_take] at this
          omega
        refine s_dputK (k := Sum.inl (z : Int)) (ev_op (ev_is (ev_dget2 (k := Sum.inl (z : Int)) (ev_var rfl) (ev_var rfl) ev_c hd) (cKV_at z _)) ev_c rv_I0) (ev_var rfl) (ev_var rfl) hd hl fun H2 e2 => ⟨_, rfl, Ex.mut (e.trans e2) nd, ?_⟩
        rw [upd_same, cnt_step hz]
      rintro σ' H' ⟨v, rfl, e, hd⟩
      rw [nV_len, List.take_length] at hd
      refine q_asg (v := .int ((1 : Nat) : Int)) (ev_is ev_c rfl) fun H2 e2 => ?_
      have nd2 := nd
      refine q_forKeysU (kvs := cKV (cnt row)) rfl (e2 _ _ hd) (fun od n σ' H' => ∃ v : Option V, σ' = [some (.int (m : Int)), some (.ref p), some (.ref d), v, some (.int ((kprod (ppN m) ((cnt row).take n) : Nat) : Int))] ∧ Ex H H' ∧ H' d = some (.frz od (.dK (cKV (cnt row)))))
        (fun od => ⟨v, rfl, Ex.mut (e.trans e2) nd, upd_same⟩) (fun od n σ' H' ⟨_, _, _, h⟩ => h) ?_ ?_
      · rintro od n k z σ' H3 hk ⟨v3, rfl, e3, h3'⟩ D' hD
        obtain ⟨x, c, hl, rfl, rfl⟩ := cKV_get hk
        have hc := cnt_small hl
        show tAug _ _ _ D' [some (.int (m : Int)), some (.ref p), some (.ref d), some (.int (x : Int)), some (.int ((kprod (ppN m) ((cnt row).take n) : Nat) : Int))] _
        refine s_augR rfl (ev_call (ea_cons (ev_var rfl) (ea_cons (ev_dgetF (k := Sum.inl (x : Int)) (ev_var rfl) (ev_var rfl) h3' (cKV_some (cnt_facts row).1 hl)) ea_nil)) (sv_pp h1 h2 (by omega))) (rv_I (wide_mul (a := 10000) (b := 10000) (by rw [Int.natAbs_natCast]; exact kprod_lt h1 h3 n) (by rw [Int.natAbs_natCast]; exact pp_lt10 h1 (by omega)) (by decide) (by decide) (by decide))) fun H4 e4 => hD _ _ ⟨some (.int (x : Int)), ?_, e3.trans e4, e4 _ _ h3'⟩
        rw [kprod_step (ppN m) hl, Int.natCast_mul]
        rfl
      · rintro od σ' H3 ⟨v3, rfl, e3, h3'⟩
        rw [cKV_len, List.take_length]
        refine s_retU (eu_tup (ea_cons ev_c (ea_cons (ev_var rfl) ea_nil)) (by show 2 ≤ 100000; decide)) fun pp H4 np e4 hp => q pp H4 (fresh_back (Ex.mut e3 nd) np) ((Ex.mut e3 nd).trans e4) hp
    · refine ⟨_, (pss_cons (ps_set (i := 2) sc_most_chance.nd rfl (Or.inl rfl) pe_dnewK)
      (pss_cons (ps_for PassesOwn.never rfl (pi_tup (pv 1)) (pg_name (i := 3) sc_most_chance.nd rfl (Or.inl rfl))
        (pss_one (ps_dput (hu_of hr) (pv 2) (pv 3) (pe_op op_add (pe_dget2 (hu_of hr) (pv 2) (pv 3) pe_int ⟨rfl, rfl, rfl, rfl⟩) pe_int) rfl)))
      (pss_cons (ps_set (i := 4) sc_most_chance.nd rfl (Or.inl rfl) pe_int)
      (pss_cons (ps_lock (ps_for PassesOwn.never rfl (pi_keys (pv 2)) (pg_name (i := 3) sc_most_chance.nd rfl (Or.inl rfl))
        (pss_one (ps_aug (i := 4) sc_most_chance.nd rfl (Or.inl rfl) (pe_dn D_power_product hr (by decide) rfl (pa_cons (pv 0) (pa_cons (pe_dget (hu_of hr) (pv 2) (pv 3) (fun _ _ => rfl)) pa_nil))) (pip_of iop_mulW)))))
      (pss_one (ps_ret (pe_tup (pa_cons pe_int (pa_cons (pv 4) pa_nil))))))))), ?_⟩
      refine q_asgD fun d H1 nd e1 hd1 => ?_
      refine q_forT (ev_var rfl) (ex_t e1 hS) (fun i σ' H' => ∃ v : Option V, σ' = [some (.int (m : Int)), some (.ref p), some (.ref d), v, none] ∧ Ex H H' ∧ H' d = some (.dK (cKV (cnt (row.take i))))) (fun H2 e2 => ⟨none, rfl, e1.trans e2, e2 _ _ hd1⟩) (fun i σ' H' _ ⟨_, _, e, _⟩ => ex_t e hS) ?_ ?_
      · rintro i x σ' H' hx ⟨v, rfl, e, hd⟩
        obtain ⟨z, hz, rfl⟩ := get_nV hx
        show sDPut _ _ _ _ [some (.int (m : Int)), some (.ref p), some (.ref d), some (.int (z : Int)), none] _
        have hl : (cKV (cnt (row.take i))).length < sizeLine := by
          have := cnt_len (row.take i)
          rw [cKV_len]
          rw [List.length_take] at this
          omega
        refine s_dputK (k := Sum.inl (z : Int)) (ev_op (ev_is (ev_dget2 (k := Sum.inl (z : Int)) (ev_var rfl) (ev_var rfl) ev_c hd) (cKV_at z _)) ev_c rv_I0) (ev_var rfl) (ev_var rfl) hd hl fun H2 e2 => ⟨_, rfl, Ex.mut (e.trans e2) nd, ?_⟩
        rw [upd_same, cnt_step hz]
      rintro σ' H' ⟨v, rfl, e, hd⟩
      rw [nV_len, List.take_length] at hd
      refine q_asg (v := .int ((1 : Nat) : Int)) (ev_is ev_c rfl) fun H2 e2 => ?_
      have nd2 := nd
      refine q_forKeysU (kvs := cKV (cnt row)) rfl (e2 _ _ hd) (fun od n σ' H' => ∃ v : Option V, σ' = [some (.int (m : Int)), some (.ref p), some (.ref d), v, some (.int ((kprod (ppN m) ((cnt row).take n) : Nat) : Int))] ∧ Ex H H' ∧ H' d = some (.frz od (.dK (cKV (cnt row)))))
        (fun od => ⟨v, rfl, Ex.mut (e.trans e2) nd, upd_same⟩) (fun od n σ' H' ⟨_, _, _, h⟩ => h) ?_ ?_
      · rintro od n k z σ' H3 hk ⟨v3, rfl, e3, h3'⟩ D' hD
        obtain ⟨x, c, hl, rfl, rfl⟩ := cKV_get hk
        have hc := cnt_small hl
        show tAug _ _ _ D' [some (.int (m : Int)), some (.ref p), some (.ref d), some (.int (x : Int)), some (.int ((kprod (ppN m) ((cnt row).take n) : Nat) : Int))] _
        refine s_augR rfl (ev_call (ea_cons (ev_var rfl) (ea_cons (ev_dgetF (k := Sum.inl (x : Int)) (ev_var rfl) (ev_var rfl) h3' (cKV_some (cnt_facts row).1 hl)) ea_nil)) (sv_pp h1 h2 (by omega))) (rv_I (wide_mul (a := 10000) (b := 10000) (by rw [Int.natAbs_natCast]; exact kprod_lt h1 h3 n) (by rw [Int.natAbs_natCast]; exact pp_lt10 h1 (by omega)) (by decide) (by decide) (by decide))) fun H4 e4 => hD _ _ ⟨some (.int (x : Int)), ?_, e3.trans e4, e4 _ _ h3'⟩
        rw [kprod_step (ppN m) hl, Int.natCast_mul]
        rfl
      · rintro od σ' H3 ⟨v3, rfl, e3, h3'⟩
        rw [cKV_len, List.take_length]
        refine s_retU (eu_tup (ea_cons ev_c (ea_cons (ev_var rfl) ea_nil)) (by show 2 ≤ 100000; decide)) fun pp H4 np e4 hp => q pp H4 (fresh_back (Ex.mut e3 nd) np) ((Ex.mut e3 nd).trans e4) hp
theorem kd_mc (D : Dn P w K mg base 3 "most_chance" s_most_chance ["standings", "lengths"] (spMC K)) : Kd P w K mg base 3 "most_chance" 0 ["standings", "lengths"] (fun _ zs => zs) (spMC K) :=
  kd_of D 0 ["standings", "lengths"] (fun _ ws => ws) (fun _ zs => zs) (fun _ _ _ _ _ _ us ws h1 h2 => match us, ws, h1, h2 with | [], [_, _], _, _ => rfl) (fun _ r => r)
end
end My

set_option Elab.async false
set_option linter.all false
set_option maxRecDepth 100000
set_option maxHeartbeats 4000000
namespace My
open PySem PySem.Spec PyProof.Rows L2 Evl
section
variable {P : Program} {w : World} {K : PySem.W.Frag} {mg : Str → Option Value} {base : Heap}
abbrev s_law_fraction : Stmt := top 8
abbrev N_law_fraction : List Str := ["value"]
theorem sc_law_fraction : FnScope N_law_fraction ["value"] (defScope s_law_fraction) := ⟨rfl, rfl, rfl, by decide +kernel, rfl, by decide +kernel, by decide +kernel⟩
def spFr : Sp := fun vs H Q _ => ∃ (p : Addr) (a b : Int), vs = [.ref p] ∧ H p = some (.tup [.int a, .int b]) ∧ RetV (.bl true) H Q
theorem sv_fr {p : Addr} {a b : Int} {H : Hp} (h : H p = some (.tup [.int a, .int b])) : SpV spFr [.ref p] H (.bl true) := fun _ e _ q _ => ⟨p, a, b, rfl, e _ _ h, q⟩
theorem ok_law_fraction (D_law_whole : Dn P w K mg base 1 "_law_whole" s_law_whole ["value"] spWhole) (T : TT mg) (F : At K mg "_law_fraction" s_law_fraction) : Dn P w K mg base 2 "_law_fraction" s_law_fraction ["value"] spFr := by
  refine dn_ok F sc_law_fraction (fun _ _ _ _ _ _ us hl => match us, hl with | [_], _ => rfl) (fun vs H Q E h => ?_) (fun f cdv A outer t H vs Q E hr h => ?_)
  · obtain ⟨p, a, b, rfl, _⟩ := h; rfl
  · obtain ⟨p, a, b, rfl, hp, q⟩ := h
    refine ⟨_, (pss_one (ps_ret (pe_and (pe_callB call_isi (by rfl) T.isinstance (by decide +kernel) (pa_cons (pv 0) (pa_cons (pe_tyn "tuple" rfl T.tuple_ (by decide +kernel)) pa_nil))) (pe_and (pe_cmpR op_eq (pe_callB call_len_seq (by rfl) T.len boot_len (pa_cons (pv 0) pa_nil)) pe_int (nomark _)) (pe_and (pe_dn D_law_whole hr (by decide) rfl (pa_cons (pe_ix ix_tup (pv 0) pe_int (fun _ _ => rfl)) pa_nil)) (pe_one (pe_dn D_law_whole hr (by decide) rfl (pa_cons (pe_ix ix_tup (pv 0) pe_int (fun _ _ => rfl)) pa_nil)))))))), ?_⟩
    exact s_ret (v := .bl (true && (true && (true && true)))) (ev_andV (ev_isi (ev_var rfl) ev_c (ClsV.ty "tuple") (fun H3 e3 => .base (.tup (e3 _ _ hp))) kit_tupT) fun _ => ev_andV (ev_op (ev_lenT (K := K) (ev_var rfl) (st_of hp)) ev_c (rv_eq rfl)) fun _ => ev_andV (ev_call (ea_cons (ev_op (ev_var rfl) ev_c (rv_ixT (K := K) (st_of hp) (show atI [V.int a, V.int b] 0 = some (.int a) from rfl))) ea_nil) sv_whole) fun _ =>
      ev_call (ea_cons (ev_op (ev_var rfl) ev_c (rv_ixT (K := K) (st_of hp) (show atI [V.int a, V.int b] 1 = some (.int b) from rfl))) ea_nil) sv_whole) fun H1 e1 => q H1 e1
abbrev s_law_same : Stmt := top 9
abbrev N_law_same : List Str := ["value", "due"]
theorem sc_law_same : FnScope N_law_same ["value", "due"] (defScope s_law_same) := ⟨rfl, rfl, rfl, by decide +kernel, rfl, by decide +kernel, by decide +kernel⟩
def spSame : Sp := fun vs H Q _ => ∃ (p r : Addr) (a b : Int), vs = [.ref p, .ref r] ∧ H p = some (.tup [.int a, .int b]) ∧ H r = some (.tup [.int a, .int b]) ∧ RetV (.bl true) H Q
theorem sv_same {p r : Addr} {a b : Int} {H : Hp} (h : H p = some (.tup [.int a, .int b])) (h2 : H r = some (.tup [.int a, .int b])) : SpV spSame [.ref p, .ref r] H (.bl true) := fun _ e _ q _ => ⟨p, r, a, b, rfl, e _ _ h, e _ _ h2, q⟩
theorem ok_law_same (D_law_fraction : Dn P w K mg base 2 "_law_fraction" s_law_fraction ["value"] spFr) (F : At K mg "_law_same" s_law_same) : Dn P w K mg base 3 "_law_same" s_law_same ["value", "due"] spSame := by
  refine dn_ok F sc_law_same (fun _ _ _ _ _ _ us hl => match us, hl with | [_, _], _ => rfl) (fun vs H Q E h => ?_) (fun f cdv A outer t H vs Q E hr h => ?_)
  · obtain ⟨p, r, a, b, rfl, _⟩ := h; rfl
  · obtain ⟨p, r, a, b, rfl, hp, hq, q⟩ := h
    refine ⟨_, (pss_one (ps_ret (pe_and (pe_dn D_law_fraction hr (by decide) rfl (pa_cons (pv 0) pa_nil)) (pe_one (pe_cmpR (op_eqD (un64k hr)) (pv 0) (pv 1) (nomark _)))))), ?_⟩
    exact s_ret (v := .bl (true && true)) (ev_andV (ev_call (ea_cons (ev_var rfl) ea_nil) (sv_fr hp)) fun _ => ev_eqPair (ev_var rfl) (ev_var rfl) (st_of hp) (st_of hq)) fun H1 e1 => q H1 e1
abbrev s_law_power : Stmt := top 10
abbrev N_law_power : List Str := ["part", "power", "turn"]
theorem sc_law_power : FnScope N_law_power ["part"] (defScope s_law_power) := ⟨rfl, rfl, rfl, by decide +kernel, rfl, by decide +kernel, by decide +kernel⟩
def spLP : Sp := fun vs H Q _ => ∃ n : Nat, vs = [.int (n : Int)] ∧ n ≤ 1000 ∧ RetV (.int ((ff n : Nat) : Int)) H Q
theorem sv_lp {n : Nat} {H : Hp} (h : n ≤ 1000) : SpV spLP [.int (n : Int)] H (.int ((ff n : Nat) : Int)) := fun _ _ _ q _ => ⟨n, rfl, h, q⟩
theorem ok_law_power (T : TT mg) (F : At K mg "_law_power" s_law_power) : Dn P w K mg base 1 "_law_power" s_law_power ["part"] spLP := by
  refine dn_ok F sc_law_power (fun _ _ _ _ _ _ us hl => match us, hl with | [_], _ => rfl) (fun vs H Q E h => ?_) (fun f cdv A outer t H vs Q E hr h => ?_)
  · obtain ⟨n, rfl, _⟩ := h; rfl
  · obtain ⟨n, rfl, hn, q⟩ := h
    refine ⟨_, (pss_cons (ps_set (i := 1) sc_law_power.nd rfl (Or.inl rfl) pe_int)
      (pss_cons (ps_for PassesOwn.never rfl (pi_range1 (by rfl) T.range (pa_cons (pv 0) pa_nil)) (pg_name (i := 2) sc_law_power.nd rfl (Or.inl rfl))
        (pss_one (ps_set (i := 1) sc_law_power.nd rfl (Or.inl rfl) (pe_op op_mul (pv 1) (pv 0)))))
      (pss_one (ps_ret (pv 1))))), ?_⟩
    refine q_asg (v := .int ((n ^ 0 : Nat) : Int)) (ev_is ev_c rfl) fun H1 e1 => ?_
    refine q_forR1 (ea_cons (ev_var rfl) ea_nil) ⟨by omega, by omega⟩ (fun i σ' H' => ∃ v : Option V, σ' = [some (.int (n : Int)), some (.int ((n ^ i : Nat) : Int)), v] ∧ Ex H H') (fun H2 e2 => ⟨none, rfl, e1.trans e2⟩) ?_ ?_
    · rintro i σ' H' hi ⟨v, rfl, e⟩
      refine s_asg (ev_op (ev_var rfl) (ev_var rfl) (rv_I (Or.inr (by omega)))) fun H2 e2 => ⟨some (.int (i : Int)), ?_, e.trans e2⟩
      rw [Nat.pow_succ, Int.natCast_mul]
      rfl
    · rintro σ' H' ⟨v, rfl, e⟩
      have en : ((n : Nat) : Int).toNat = n := by omega
      refine s_ret (ev_var rfl) fun H2 e2 => ?_
      rw [en]
      exact q H2 (e.trans e2)
abbrev s_law_even : Stmt := top 11
abbrev N_law_even : List Str := ["many", "amount", "k"]
theorem sc_law_even : FnScope N_law_even ["many", "amount"] (defScope s_law_even) := ⟨rfl, rfl, rfl, by decide +kernel, rfl, by decide +kernel, by decide +kernel⟩
def spEven : Sp := fun vs H Q _ => ∃ m a : Nat, vs = [.int (m : Int), .int (a : Int)] ∧ 1 ≤ m ∧ m ≤ 500 ∧ RetL (nV (evenN m a)) H Q
theorem sl_even {m a : Nat} {H : Hp} (h1 : 1 ≤ m) (h2 : m ≤ 500) : SpL spEven [.int (m : Int), .int (a : Int)] H (nV (evenN m a)) := fun _ _ _ q _ => ⟨m, a, rfl, h1, h2, q⟩
theorem ok_law_even (T : TT mg) (F : At K mg "_law_even" s_law_even) : Dn P w K mg base 1 "_law_even" s_law_even ["many", "amount"] spEven := by
  refine dn_ok F sc_law_even (fun _ _ _ _ _ _ us hl => match us, hl with | [_, _], _ => rfl) (fun vs H Q E h => ?_) (fun f cdv A outer t H vs Q E hr h => ?_)
  · obtain ⟨m, a, rfl, _⟩ := h; rfl
  · obtain ⟨m, a, rfl, h1, h2, q⟩ := h
    refine ⟨_, (pss_one (ps_ret (pe_lc (own := [("k", 2)]) (g := gName 2) (tt := tYes) rfl sc_law_even.nd (pi_range1 (by rfl) T.range (pa_cons (pv 0) pa_nil)) (blkOk_by (own := [("k", 2)]) (N := N_law_even) (sc := defScope s_law_even) (by decide +kernel)) (fun _ _ _ _ _ => pg_name (i := 2) sc_law_even.nd rfl (Or.inl rfl)) (fun _ _ _ _ _ => pts_nil) (fun _ _ _ _ _ => (pe_op op_add (pe_op op_fdiv (pv 1) (pv 0)) (pe_callTy call_int1 (by rfl) T.int_ (by decide +kernel) (pa_cons (pe_cmpR op_lt (pv 2) (pe_op op_mod (pe_callTy call_int1 (by rfl) T.int_ (by decide +kernel) (pa_cons (pv 1) pa_nil)) (pv 0)) (nomark _)) pa_nil))))))), ?_⟩
    have hv : nV (evenN m a) = given m (fun _ => true) (fun k => V.int ((a / m + (if k < a % m then 1 else 0) : Nat) : Int)) := by
      have := given_map (List.range m) 0 (fun (k : Nat) => V.int ((a / m + (if k < a % m then 1 else 0) : Nat) : Int)) (fun k => V.int ((a / m + (if k < a % m then 1 else 0) : Nat) : Int)) (fun i hi => by
        rw [List.length_range] at hi
        rw [List.getD_eq_getElem?_getD, List.getElem?_range hi]
        rfl)
      rw [List.length_range] at this
      rw [this]
      unfold evenN nV
      rw [List.map_map]
      rfl
    rw [hv] at q
    have en : ((m : Nat) : Int).toNat = m := by omega
    refine s_retL (xs := given ((m : Nat) : Int).toNat (fun _ => true) (fun k => V.int ((a / m + (if k < a % m then 1 else 0) : Nat) : Int))) (el_lcR1 (n := (m : Int)) (fun _ => true) _ (ea_cons (ev_var rfl) ea_nil) ⟨by omega, by omega⟩ (fun _ => rfl) (fun i H1 e1 hi => et_yes) (fun i H1 e1 hi _ => ?_)) fun p H1 np e1 hp => ?_
    · refine ev_is (ev_op (ev_op (ev_var rfl) (ev_var rfl) (rv_I ⟨by omega, by omega⟩)) (ev_intB (ev_op (ev_var rfl) (ev_op (ev_int (ev_var rfl)) (ev_var rfl) (rv_I (by omega))) rv_I0)) rv_I0) (congrArg V.int ?_)
      rw [Int.natCast_add, Int.natCast_ediv]
      congr 1
      have : (decide ((i : Int) < (a : Int) % (m : Int))) = decide (i < a % m) := decide_eq_decide.mpr (by omega)
      rw [this]
      by_cases hlt : i < a % m
      · rw [if_pos hlt, decide_eq_true hlt]; rfl
      · rw [if_neg hlt, decide_eq_false hlt]; rfl
    · rw [en] at hp
      exact q p H1 np e1 hp
abbrev s_law_powers : Stmt := top 12
abbrev N_law_powers : List Str := ["parts", "made", "part"]
theorem sc_law_powers : FnScope N_law_powers ["parts"] (defScope s_law_powers) := ⟨rfl, rfl, rfl, by decide +kernel, rfl, by decide +kernel, by decide +kernel⟩
def spPrs (K : PySem.W.Frag) : Sp := fun vs H Q _ => ∃ (p : Addr) (l : List Nat), vs = [.ref p] ∧ SqL K H p (nV l) ∧ l.sum ≤ 512 ∧ RetV (.int ((pr l : Nat) : Int)) H Q
theorem sv_prs {p : Addr} {l : List Nat} {H : Hp} (hS : SqL K H p (nV l)) (hs : l.sum ≤ 512) : SpV (spPrs K) [.ref p] H (.int ((pr l : Nat) : Int)) := fun _ e _ q _ => ⟨p, l, rfl, ex_l e hS, hs, q⟩
theorem pr_lt {l : List Nat} (h : l.sum ≤ 512) : pr l < HG := Nat.lt_of_le_of_lt (pr_small h) (lt_HG (by omega))
theorem take_sumN (l : List Nat) (n : Nat) : (l.take n).sum ≤ l.sum := by
  conv => rhs; rw [← List.take_append_drop n l]
  rw [List.sum_append]
  omega
theorem mem_sumN : ∀ {l : List Nat} {c : Nat}, c ∈ l → c ≤ l.sum
  | a :: l, c, h => by
    rw [List.sum_cons]
    rcases List.mem_cons.mp h with rfl | h
    · omega
    · have := mem_sumN h; omega
theorem pr_step {l : List Nat} {i z : Nat} (h : l[i]? = some z) : pr (l.take (i + 1)) = pr (l.take i) * ff z := by
  obtain ⟨hi, he⟩ := List.getElem?_eq_some_iff.mp h
  rw [List.take_succ_eq_append_getElem hi, he, pr_app]
  show _ * (ff z * 1) = _
  rw [Nat.mul_one]
theorem ok_law_powers (D_law_power : Dn P w K mg base 1 "_law_power" s_law_power ["part"] spLP) (T : TT mg) (F : At K mg "_law_powers" s_law_powers) : Dn P w K mg base 2 "_law_powers" s_law_powers ["parts"] (spPrs K) := by
  refine dn_ok F sc_law_powers (fun _ _ _ _ _ _ us hl => match us, hl with | [_], _ => rfl) (fun vs H Q E h => ?_) (fun f cdv A outer t H vs Q E hr h => ?_)
  · obtain ⟨p, l, rfl, _⟩ := h; rfl
  · obtain ⟨p, l, rfl, hS, hs, q⟩ := h
    refine ⟨_, (pss_cons (ps_set (i := 1) sc_law_powers.nd rfl (Or.inl rfl) pe_int)
      (pss_cons (ps_for PassesOwn.never rfl (pi_list (pv 0)) (pg_name (i := 2) sc_law_powers.nd rfl (Or.inl rfl))
        (pss_one (ps_set (i := 1) sc_law_powers.nd rfl (Or.inl rfl) (pe_op op_mulW (pv 1) (pe_dn D_law_power hr (by decide) rfl (pa_cons (pv 2) pa_nil))))))
      (pss_one (ps_ret (pv 1))))), ?_⟩
    refine q_asg (v := .int ((pr (l.take 0) : Nat) : Int)) (ev_is ev_c rfl) fun H1 e1 => ?_
    refine q_forLn (ev_var rfl) (ex_l e1 hS) (fun i σ' H' => ∃ v : Option V, σ' = [some (.ref p), some (.int ((pr (l.take i) : Nat) : Int)), v] ∧ Ex H H') (fun H2 e2 => ⟨none, rfl, e1.trans e2⟩) (fun i σ' H' _ ⟨_, _, e⟩ => ex_l e hS) ?_ ?_
    · rintro i x σ' H' hx ⟨v, rfl, e⟩
      obtain ⟨z, hz, rfl⟩ := get_nV hx
      have hzs := mem_sumN (List.mem_of_getElem? hz)
      have hts := take_sumN l i
      refine s_asg (ev_op (ev_var rfl) (ev_call (ea_cons (ev_var rfl) ea_nil) (sv_lp (by omega))) (rv_I (wide_mul (a := 10000) (b := 10000) (by rw [Int.natAbs_natCast]; exact pr_lt (by omega)) (by rw [Int.natAbs_natCast]; exact ff_lt (by omega)) (by decide) (by decide) (by decide)))) fun H2 e2 => ⟨some (.int (z : Int)), ?_, e.trans e2⟩
      rw [pr_step hz, Int.natCast_mul]
      rfl
    · rintro σ' H' ⟨v, rfl, e⟩
      refine s_ret (ev_var rfl) fun H2 e2 => ?_
      rw [nV_len, List.take_length]
      exact q H2 (e.trans e2)
abbrev s_law_most : Stmt := top 13
abbrev N_law_most : List Str := ["many", "row", "often", "length", "bottom"]
theorem sc_law_most : FnScope N_law_most ["many", "row"] (defScope s_law_most) := ⟨rfl, rfl, rfl, by decide +kernel, rfl, by decide +kernel, by decide +kernel⟩
def spLM (K : PySem.W.Frag) : Sp := fun vs H Q _ => ∃ (m : Nat) (p : Addr) (row : List Nat), vs = [.int (m : Int), .ref p] ∧ SqL K H p (nV row) ∧ 1 ≤ m ∧ m ≤ 500 ∧ row.length ≤ 512 ∧ RetV (.int ((mostP m row : Nat) : Int)) H Q
theorem sv_lm {m : Nat} {p : Addr} {row : List Nat} {H : Hp} (hS : SqL K H p (nV row)) (h1 : 1 ≤ m) (h2 : m ≤ 500) (h3 : row.length ≤ 512) : SpV (spLM K) [.int (m : Int), .ref p] H (.int ((mostP m row : Nat) : Int)) := fun _ e _ q _ => ⟨m, p, row, rfl, ex_l e hS, h1, h2, h3, q⟩
theorem ev_callLL {K : PySem.W.Frag} {σ : L2.St} {H : Hp} {te : TE} {xs : List V} {z : V} {sp : Sp} {E : XK} (h : EvL te σ H xs) (hs : ∀ p H1, H1 p = some (.lst xs) → Ex H H1 → SpV sp [.ref p] H1 z) : Ev (tCall sp [] E (tCons te tNil)) σ H z := fun H0 e0 Q q =>
  h H0 e0 _ fun p H1 hp e1 h1 => hs p H1 h1 (e0.trans e1) H1 (Ex.refl H1) Q (fun H2 e2 => q H2 (e1.trans e2)) E
theorem ok_law_most (D_law_powers : Dn P w K mg base 2 "_law_powers" s_law_powers ["parts"] (spPrs K)) (D_law_even : Dn P w K mg base 1 "_law_even" s_law_even ["many", "amount"] spEven) (F : At K mg "_law_most" s_law_most) : Dn P w K mg base 3 "_law_most" s_law_most ["many", "row"] (spLM K) := by
  refine dn_ok F sc_law_most (fun _ _ _ _ _ _ us hl => match us, hl with | [_, _], _ => rfl) (fun vs H Q E h => ?_) (fun f cdv A outer t H vs Q E hr h => ?_)
  · obtain ⟨m, p, row, rfl, _⟩ := h; rfl
  · obtain ⟨m, p, row, rfl, hS, h1, h2, h3, q⟩ := h
    have hln := line600
    have hcl := cnt_len row
    refine ⟨_, (pss_cons (ps_set (i := 2) sc_law_most.nd rfl (Or.inl rfl) pe_dnewK)
      (pss_cons (ps_for PassesOwn.never rfl (pi_list (pv 1)) (pg_name (i := 3) sc_law_most.nd rfl (Or.inl rfl))
        (pss_one (ps_dput (hu_of hr) (pv 2) (pv 3) (pe_op op_add (pe_dget2 (hu_of hr) (pv 2) (pv 3) pe_int ⟨rfl, rfl, rfl, rfl⟩) pe_int) rfl)))
      (pss_cons (ps_set (i := 4) sc_law_most.nd rfl (Or.inl rfl) pe_int)
      (pss_cons (ps_lock (ps_for PassesOwn.never rfl (pi_keys (pv 2)) (pg_name (i := 3) sc_law_most.nd rfl (Or.inl rfl))
        (pss_one (ps_set (i := 4) sc_law_most.nd rfl (Or.inl rfl) (pe_op op_mulW (pv 4) (pe_dn D_law_powers hr (by decide) rfl (pa_cons (pe_dn D_law_even hr (by decide) rfl (pa_cons (pv 0) (pa_cons (pe_dget (hu_of hr) (pv 2) (pv 3) (fun _ _ => rfl)) pa_nil))) pa_nil)))))))
      (pss_one (ps_ret (pv 4))))))), ?_⟩
    refine q_asgD fun d H1 nd e1 hd1 => ?_
    refine q_forLn (ev_var rfl) (ex_l e1 hS) (fun i σ' H' => ∃ v : Option V, σ' = [some (.int (m : Int)), some (.ref p), some (.ref d), v, none] ∧ Ex H H' ∧ H' d = some (.dK (cKV (cnt (row.take i))))) (fun H2 e2 => ⟨none, rfl, e1.trans e2, e2 _ _ hd1⟩) (fun i σ' H' _ ⟨_, _, e, _⟩ => ex_l e hS) ?_ ?_
    · rintro i x σ' H' hx ⟨v, rfl, e, hd⟩
      obtain ⟨z, hz, rfl⟩ := get_nV hx
      show sDPut _ _ _ _ [some (.int (m : Int)), some (.ref p), some (.ref d), some (.int (z : Int)), none] _
      have hl : (cKV (cnt (row.take i))).length < sizeLine := by
        have := cnt_len (row.take i)
        rw [cKV_len]
        rw [List.length_take] at this
        omega
      refine s_dputK (k := Sum.inl (z : Int)) (ev_op (ev_is (ev_dget2 (k := Sum.inl (z : Int)) (ev_var rfl) (ev_var rfl) ev_c hd) (cKV_at z _)) ev_c rv_I0) (ev_var rfl) (ev_var rfl) hd hl fun H2 e2 => ⟨_, rfl, Ex.mut (e.trans e2) nd, ?_⟩
      rw [upd_same, cnt_step hz]
    rintro σ' H' ⟨v, rfl, e, hd⟩
    rw [nV_len, List.take_length] at hd
    refine q_asg (v := .int ((1 : Nat) : Int)) (ev_is ev_c rfl) fun H2 e2 => ?_
    refine q_forKeysU (kvs := cKV (cnt row)) rfl (e2 _ _ hd) (fun od n σ' H' => ∃ v : Option V, σ' = [some (.int (m : Int)), some (.ref p), some (.ref d), v, some (.int ((kprod (ppN m) ((cnt row).take n) : Nat) : Int))] ∧ Ex H H' ∧ H' d = some (.frz od (.dK (cKV (cnt row)))))
      (fun od => ⟨v, rfl, Ex.mut (e.trans e2) nd, upd_same⟩) (fun od n σ' H' ⟨_, _, _, h⟩ => h) ?_ ?_
    · rintro od n k z σ' H3 hk ⟨v3, rfl, e3, h3'⟩ D' hD
      obtain ⟨x, c, hl, rfl, rfl⟩ := cKV_get hk
      have hc := cnt_small hl
      have hes := even_sum (amount := c) (show 0 < m from h1)
      show tAsg _ _ D' [some (.int (m : Int)), some (.ref p), some (.ref d), some (.int (x : Int)), some (.int ((kprod (ppN m) ((cnt row).take n) : Nat) : Int))] _
      have hp := even_pp (amount := c) (show 0 < m from h1)
      refine s_asg (ev_op (ev_var rfl) (ev_callLL (K := K) (el_call (ea_cons (ev_var rfl) (ea_cons (ev_dgetF (k := Sum.inl (x : Int)) (ev_var rfl) (ev_var rfl) h3' (cKV_some (cnt_facts row).1 hl)) ea_nil)) (sl_even h1 h2)) (fun r H4 hr4 e4 => sv_prs (K := K) (sq_of hr4) (by omega))) (rv_I (wide_mul (a := 10000) (b := 10000) (by rw [Int.natAbs_natCast]; exact kprod_lt h1 h3 n) (by rw [Int.natAbs_natCast]; exact pr_lt (by omega)) (by decide) (by decide) (by decide)))) fun H4 e4 => hD _ _ ⟨some (.int (x : Int)), ?_, e3.trans e4, e4 _ _ h3'⟩
      rw [kprod_step (ppN m) hl, ← hp, Int.natCast_mul]
      rfl
    · rintro od σ' H3 ⟨v3, rfl, e3, h3'⟩
      rw [cKV_len, List.take_length]
      exact s_ret (ev_var rfl) fun H4 e4 => q H4 ((Ex.mut e3 nd).trans e4)
end
end My

set_option Elab.async false
set_option linter.all false
set_option maxRecDepth 100000
set_option maxHeartbeats 4000000
namespace My
open PySem PySem.Spec PyProof.Rows L2 Evl
/-! ### new lists of new lists -/
theorem upd_Ne {H : Hp} {a b : Addr} {o u : HO} (h : H b = some o) (hn : b ≠ a) : upd H a u b = some o := by
  rw [upd_ne hn]; exact h
def EvLL (te : TE) (σ : L2.St) (H : Hp) (rows : List (List Nat)) : Prop := ∀ H1, Ex H H1 → ∀ Q : VK, (∀ p as H2, H1 p = none → Ex H1 H2 → H2 p = some (.lst (as.map V.ref)) → LL H2 as rows → Q (.ref p) H2) → te σ H1 Q
def LLI (H : Hp) (D : Addr) (as : List Addr) (rows : List (List Nat)) : Prop := H D = some (.lst (as.map V.ref)) ∧ LL H as rows ∧ D ∉ as
theorem LLI.ex {H H' : Hp} {D : Addr} {as : List Addr} {rows : List (List Nat)} (h : LLI H D as rows) (e : Ex H H') : LLI H' D as rows := ⟨e _ _ h.1, h.2.1.ex e, h.2.2⟩
theorem LLI.push {H : Hp} {D p : Addr} {as : List Addr} {rows : List (List Nat)} {r : List Nat} (h : LLI H D as rows) (hp : H p = some (.lst (nV r))) (hne : p ≠ D) : LLI (upd H D (.lst (as.map V.ref ++ [.ref p]))) D (as ++ [p]) (rows ++ [r]) := by
  refine ⟨by rw [upd_same, List.map_append]; rfl, LL.snoc ?_ ?_, ?_⟩
  · rw [upd_Ne hp hne]
  · exact LL.but (l := D) (fun b o hb hbd => by rw [upd_Ne hb hbd]) h.2.2 h.2.1
  · intro hm
    rcases List.mem_append.mp hm with hm | hm
    · exact h.2.2 hm
    · exact hne (List.mem_singleton.mp hm).symm
section
variable {K : PySem.W.Frag} {σ : L2.St} {H : Hp} {ta tb te tl : TE} {x y z v : V} {D : Ends} {tu tz : TS} {t : L2.TT}
theorem el_catR {xs ys : List V} {a : Addr} (ha : Ev ta σ H (.ref a)) (hb : EvL tb σ H ys) (hx : H a = some (.lst xs)) (hz : xs.length + ys.length ≤ 100000) : EvL (tOp rCat ta tb) σ H (xs ++ ys) := fun H1 e Q q =>
  ha H1 e _ fun H2 e2 => hb H2 (e.trans e2) _ fun r H3 hr e3 h3 => ⟨a, r, xs, ys, rfl, rfl, ((e.trans e2).trans e3) a _ hx, h3, sz_of hz, fun l hl => q l _ (fresh_back (e2.trans e3) hl) ((e2.trans e3).trans (Ex.new hl)) upd_same⟩
theorem q_ifSet {i : Nat} {b : Bool} (h : EvT t σ H b) (h1 : b = true → ∀ H1, Ex H H1 → Ev te σ H1 v) (h2 : b = false → σ[i]? = some (some v)) (k : ∀ H1, Ex H H1 → tz D (σ.set i (some v)) H1) : tSeq (tIfS t (tAsg te (gName i)) tNext) tz D σ H :=
  q_when h (fun hb H1 e1 => s_asg (D := { D with nx := tz D }) (h1 hb H1 e1) fun H2 e2 => k H2 (e1.trans e2)) fun hb H1 e1 => by
    have hs : σ.set i (some v) = σ := by
      obtain ⟨hi, he⟩ := List.getElem?_eq_some_iff.mp (h2 hb)
      rw [← he, List.set_getElem_self]
    have := k H1 e1
    rwa [hs] at this
theorem q_cutIf {b : Bool} (M : L2.St → Hp → Prop) (h : EvT t σ H b) (h1 : b = true → ∀ H1, Ex H H1 → tu { D with nx := M } σ H1) (h2 : ∀ H1, Ex H H1 → M σ H1) (k : ∀ σ' H', M σ' H' → tz D σ' H') : tCut (tIfS t tu tNext) tz D σ H :=
  q_cut (M := M) (s_when (D := { D with nx := M }) h h1 fun _ => h2) k
theorem q_asgLL0 {i : Nat} (k : ∀ rp r0 H1, Ex H H1 → LLI H1 rp [r0] [[]] → tz D (σ.set i (some (.ref rp))) H1) : tSeq (tAsg (tLst (tCons (tLst tNil) tNil)) (gName i)) tz D σ H := by
  show tLst tNil σ H (fun x H1 => tNil σ H1 fun xs H2 => (x :: xs).length ≤ sizeLine ∧ ∀ p, H2 p = none → tz D (σ.set i (some (.ref p))) (upd H2 p (.lst (x :: xs))))
  refine (el_lst ea_nil (by decide) : EvL (tLst tNil) σ H []) H (Ex.refl H) _ fun r0 H1 nr0 e1 hr0 => ⟨by rw [sizeLine_eq]; show 1 ≤ 16777216; decide, fun rp hrp => ?_⟩
  have hne0 : r0 ≠ rp := fun z => by rw [← z, hr0] at hrp; cases hrp
  exact k rp r0 _ (e1.trans (Ex.new hrp)) ⟨upd_same, ⟨by rw [upd_Ne hr0 hne0]; rfl, trivial⟩, by rw [List.mem_singleton]; exact hne0.symm⟩
theorem ell_lc {a : Addr} {xs : List V} {j : Nat} {vs : List Nat} (rows : List (List Nat)) (h : Ev tl σ H (.ref a)) (hx : SqL K H a xs) (hl : rows.length = xs.length) (hz : xs.length ≤ 40000) (hw : ∀ x, wipe ((wipe σ vs).set j (some x)) vs = wipe σ vs)
    (he : ∀ (i : Nat) (x : V) (r : List Nat) H1, Ex H H1 → xs[i]? = some x → rows[i]? = some r → EvL te ((wipe σ vs).set j (some x)) H1 (nV r)) : EvLL (tLc (iList K tl) (gName j) tYes te vs) σ H rows := fun H0 e Q q => h H0 e _ fun H1 e1 => ⟨a, rfl, ⟨xs, ex_l (e.trans e1) hx⟩, fun Dl hD =>
  lc_list (xs := xs) (fun i H' => Ex H1 H' ∧ ∃ as, LLI H' Dl as (rows.take i)) ⟨Ex.new hD, [], upd_same, trivial, by simp⟩ (fun i H' _ p => ex_l ((e.trans e1).trans p.1) hx) (fun i x H' hi p => ⟨hw x, by
    obtain ⟨p1, as, L⟩ := p
    have hil := (List.getElem?_eq_some_iff.mp hi).1
    have hr : rows[i]? = some rows[i] := List.getElem?_eq_getElem (by omega)
    show te _ H' fun y H4 => ∃ acc, H4 Dl = some (.lst acc) ∧ acc.length < sizeLine ∧ _
    refine he i x _ H1 (e.trans e1) hi hr H' p1 _ fun r H4 nr e4 h4 => ?_
    have hne : r ≠ Dl := fun z => by rw [z, L.1] at nr; cases nr
    have hlen : as.length ≤ 40000 := by rw [L.2.1.len, List.length_take]; omega
    refine ⟨as.map V.ref, e4 _ _ L.1, sz_lt (by rw [List.length_map]; omega), Ex.mut (p1.trans e4) hD, as ++ [r], ?_⟩
    rw [List.take_succ_eq_append_getElem (by omega)]
    exact (L.ex e4).push h4 hne⟩)
    (fun H' p => by
      obtain ⟨p1, as, L⟩ := p
      rw [← hl, List.take_length] at L
      exact q Dl as H' (fresh_back e1 hD) (e1.trans p1) L.1 L.2.1)⟩
theorem el_lcLL {rows : List (List Nat)} {j : Nat} {vs : List Nat} (f : List Nat → V) (h : EvLL tl σ H rows) (hz : rows.length ≤ 40000) (hw : ∀ x, wipe ((wipe σ vs).set j (some x)) vs = wipe σ vs)
    (he : ∀ (a : Addr) (r : List Nat) H1, Ex H H1 → H1 a = some (.lst (nV r)) → r ∈ rows → Ev te ((wipe σ vs).set j (some (.ref a))) H1 (f r)) : EvL (tLc (iList K tl) (gName j) tYes te vs) σ H (rows.map f) := fun H0 e Q q => h H0 e _ fun p as H1 np e1 hp L => ⟨p, rfl, ⟨_, sq_of hp⟩, fun Dl hD => by
  have hal : (as.map V.ref).length = rows.length := by rw [List.length_map, L.len]
  have hv : given (as.map V.ref).length (fun _ => true) (fun i => f (rows.getD i [])) = rows.map f := by
    rw [hal]
    exact given_map rows [] f _ fun i _ => rfl
  refine lc_list (xs := as.map V.ref) (Cw H1 (fun _ => true) (fun i => f (rows.getD i [])) Dl) ⟨hD, Ex.new hD, upd_same⟩ (fun i H' _ p' => sq_of (p'.2.1 _ _ hp)) (fun i x H' hi p' => ⟨hw x, cw_turn p' (by have := (List.getElem?_eq_some_iff.mp hi).1; omega) et_yes (fun hf => ?_)⟩)
    (fun H' p' => q Dl H' (fresh_back e1 p'.1) (e1.trans p'.2.1) (by rw [← hv]; exact p'.2.2))
  obtain ⟨a, r, rfl, hr, ha⟩ := L.get hi
  have e2 : rows.getD i [] = r := by rw [List.getD_eq_getElem?_getD, hr]; rfl
  rw [e2]
  exact he a r H1 (e.trans e1) ha (List.mem_of_getElem? hr)⟩
end
theorem grow_len (a : Nat) : ∀ rows : List (List Nat), (rows.flatMap fun row => (List.range (a - row.sum + 1)).map fun part => row ++ [part]).length ≤ rows.length * (a + 1)
  | [] => by simp
  | r :: rows => by
    have ih := grow_len a rows
    rw [List.flatMap_cons, List.length_append, List.length_map, List.length_range, List.length_cons, Nat.succ_mul]
    omega
theorem flat_take {rows : List (List Nat)} {n : Nat} {r : List Nat} (f : List Nat → List (List Nat)) (h : rows[n]? = some r) : (rows.take (n + 1)).flatMap f = (rows.take n).flatMap f ++ f r := by
  obtain ⟨hi, he⟩ := List.getElem?_eq_some_iff.mp h
  rw [List.take_succ_eq_append_getElem hi, he, List.flatMap_append]
  simp
theorem spl_small {a t : Nat} (ha : a ≤ 8) (ht : t ≤ 3) : (spl a t).length ≤ 729 := by
  refine Nat.le_trans (spl_count a t) (Nat.le_trans (Nat.pow_le_pow_left (show a + 1 ≤ 9 by omega) t) ?_)
  exact Nat.le_trans (Nat.pow_le_pow_right (by decide) ht) (by decide)
section
variable {P : Program} {w : World} {K : PySem.W.Frag} {mg : Str → Option Value} {base : Heap}
abbrev s_law_splits : Stmt := top 14
abbrev N_law_splits : List Str := ["many", "amount", "rows", "turn", "grown", "row", "part"]
theorem sc_law_splits : FnScope N_law_splits ["many", "amount"] (defScope s_law_splits) := ⟨rfl, rfl, rfl, by decide +kernel, rfl, by decide +kernel, by decide +kernel⟩
def spSplits : Sp := fun vs H Q _ => ∃ m a : Nat, vs = [.int (m : Int), .int (a : Int)] ∧ 1 ≤ m ∧ m ≤ 4 ∧ a ≤ 8 ∧ ∀ p as H2, H p = none → Ex H H2 → H2 p = some (.lst (as.map V.ref)) → LL H2 as (splits m a) → Q (.ref p) H2
theorem ok_law_splits (T : TT mg) (F : At K mg "_law_splits" s_law_splits) : Dn P w K mg base 1 "_law_splits" s_law_splits ["many", "amount"] spSplits := by
  refine dn_ok F sc_law_splits (fun _ _ _ _ _ _ us hl => match us, hl with | [_, _], _ => rfl) (fun vs H Q E h => ?_) (fun f cdv A outer t H vs Q E hr h => ?_)
  · obtain ⟨m, a, rfl, _⟩ := h; rfl
  · obtain ⟨m, a, rfl, h1, h2, h3, q⟩ := h
    refine ⟨_, (pss_cons (ps_set (i := 2) sc_law_splits.nd rfl (Or.inl rfl) (pe_lst (pa_cons (pe_lst pa_nil) pa_nil)))
      (pss_cons (ps_for PassesOwn.never rfl (pi_range1 (by rfl) T.range (pa_cons (pe_op op_sub (pv 0) pe_int) pa_nil)) (pg_name (i := 3) sc_law_splits.nd rfl (Or.inl rfl))
        (pss_cons (ps_set (i := 4) sc_law_splits.nd rfl (Or.inl rfl) (pe_lst pa_nil))
          (pss_cons (ps_for PassesOwn.never rfl (pi_list (pv 2)) (pg_name (i := 5) sc_law_splits.nd rfl (Or.inl rfl))
            (pss_one (ps_for PassesOwn.never rfl (pi_range1 (by rfl) T.range (pa_cons (pe_op op_add (pe_op op_sub (pv 1) (pe_callB (cr_sum rfl) (by rfl) T.sum (by decide +kernel) (pa_cons (pv 5) pa_nil))) pe_int) pa_nil)) (pg_name (i := 6) sc_law_splits.nd rfl (Or.inl rfl))
                (pss_one (ps_expr (pe_bm PySem.F.plainAttrs_list PySem.F.slot_list_append PySem.F.type_list_append mt_append (pv 4) (pa_cons (pe_op op_cat (pv 5) (pe_lst (pa_cons (pv 6) pa_nil))) pa_nil)))))))
          (pss_one (ps_set (i := 2) sc_law_splits.nd rfl (Or.inl rfl) (pe_callTy call_list_of (by rfl) T.list_ (by decide +kernel) (pa_cons (pv 4) pa_nil)))))))
      (pss_one (ps_ret (pe_lc (te := tOp rCat (tVar 5) (tLst (tCons (tOp (rI0 fun i j => .int (i - j)) (tVar 1) (tCB (rSum K) (tCons (tVar 5) tNil))) tNil))) (own := [("row", 5)]) (g := gName 5) (tt := tYes) rfl sc_law_splits.nd (pi_list (pv 2)) (blkOk_by (own := [("row", 5)]) (N := N_law_splits) (sc := defScope s_law_splits) (by decide +kernel)) (fun _ _ _ _ _ => pg_name (i := 5) sc_law_splits.nd rfl (Or.inl rfl)) (fun _ _ _ _ _ => pts_nil) (fun _ _ _ _ _ => (pe_op op_cat (pv 5) (pe_lst (pa_cons (pe_op op_sub (pv 1) (pe_callB (cr_sum rfl) (by rfl) T.sum (by decide +kernel) (pa_cons (pv 5) pa_nil))) pa_nil))))))))), ?_⟩
    refine q_asgLL0 fun rp r0 H1 e12 L0 => ?_
    have em : (m : Int) - 1 = ((m - 1 : Nat) : Int) := by omega
    refine q_forR1 (ea_cons (ev_is (ev_op (ev_var rfl) ev_c rv_I0) (congrArg V.int em)) ea_nil) ⟨by omega, by omega⟩
      (fun i σ' H' => ∃ (rp : Addr) (as : List Addr) (x3 x4 x5 x6 : Option V), σ' = [some (.int (m : Int)), some (.int (a : Int)), some (.ref rp), x3, x4, x5, x6] ∧ Ex H H' ∧ LLI H' rp as (spl a i))
      (fun H2 e2 => ⟨rp, [r0], none, none, none, none, rfl, e12.trans e2, L0.ex e2⟩) ?_ ?_
    · rintro i σ' H' hi ⟨rp, as, x3, x4, x5, x6, rfl, e, L⟩
      have hi' : i ≤ 2 := by omega
      have hrows := spl_small (a := a) (t := i) h3 (by omega)
      refine q_asgL (el_lst ea_nil (by decide)) fun gp H2 ngp e2 hgp => ?_
      have hrl : (as.map V.ref).length = (spl a i).length := by rw [List.length_map, L.2.1.len]
      refine q_forLn (ev_var rfl) (sq_of (L.ex e2).1) (fun n σ' H3 => ∃ (gs : List Addr) (x5 x6 : Option V), σ' = [some (.int (m : Int)), some (.int (a : Int)), some (.ref rp), some (.int (i : Int)), some (.ref gp), x5, x6] ∧ Ex H' H3 ∧ LLI H3 gp gs (((spl a i).take n).flatMap fun row => (List.range (a - row.sum + 1)).map fun part => row ++ [part]))
        (fun H3 e3 => ⟨[], x5, x6, rfl, e2.trans e3, e3 _ _ hgp, trivial, by simp⟩) (fun n σ' H3 _ ⟨_, _, _, _, e3, _⟩ => sq_of (L.ex e3).1) ?_ ?_
      · rintro n x σ' H3 hx ⟨gs, y5, y6, rfl, e3, G⟩
        obtain ⟨ra, row, rfl, hrow, hra⟩ := (L.ex e3).2.1.get hx
        have hrs := ((spl_in a i row).mp (List.mem_of_getElem? hrow)).2
        have hn : n < 729 := by have := (List.getElem?_eq_some_iff.mp hrow).1; omega
        show tFor _ _ _ _ [some (.int (m : Int)), some (.int (a : Int)), some (.ref rp), some (.int (i : Int)), some (.ref gp), some (.ref ra), y6] H3
        have eparts : (a : Int) - ((row.sum : Nat) : Int) + 1 = ((a - row.sum + 1 : Nat) : Int) := by omega
        refine s_forR1 (ea_cons (ev_is (ev_op (ev_op (ev_var rfl) (ev_is (ev_sumR (ns := nI row) (ev_var rfl) (by rw [← nV_nI]; exact sq_of hra)) (congrArg V.int (sum_nI row))) rv_I0) ev_c rv_I0) (congrArg V.int eparts)) ea_nil) ⟨by omega, by omega⟩
          (fun k σ' H4 => ∃ (gs : List Addr) (y6 : Option V), σ' = [some (.int (m : Int)), some (.int (a : Int)), some (.ref rp), some (.int (i : Int)), some (.ref gp), some (.ref ra), y6] ∧ Ex H' H4 ∧ H4 ra = some (.lst (nV row)) ∧ LLI H4 gp gs ((((spl a i).take n).flatMap fun row => (List.range (a - row.sum + 1)).map fun part => row ++ [part]) ++ (List.range k).map fun part => row ++ [part]))
          (fun H4 e4 => ⟨gs, y6, rfl, e3.trans e4, e4 _ _ hra, by rw [List.range_zero, List.map_nil, List.append_nil]; exact G.ex e4⟩) ?_ ?_
        · rintro k σ' H4 hk ⟨gs2, z6, rfl, e4, hra4, G4⟩
          have hglen : gs2.length ≤ 99999 := by
            have g1 := G4.2.1.len
            have g2 := grow_len a ((spl a i).take n)
            rw [List.length_append, List.length_map, List.length_range] at g1
            have g3 : ((spl a i).take n).length * (a + 1) ≤ 729 * 9 := Nat.mul_le_mul (by rw [List.length_take]; omega) (by omega)
            omega
          have hgr : ra ≠ gp := fun z => by
            have := (L.ex e3).2.1
            have hx2 := hgp
            have hm : ra ∈ as := by
              obtain ⟨hq, hq2⟩ := List.getElem?_eq_some_iff.mp hx
              rw [List.getElem_map] at hq2
              have := V.ref.inj hq2
              rw [← this]
              exact List.getElem_mem _
            have hold : ∃ o, H' ra = some o := by
              obtain ⟨j, hj, hj2⟩ := List.getElem_of_mem hm
              obtain ⟨a', r', ha', _, hh⟩ := L.2.1.get (i := j) (x := .ref ra) (by rw [List.getElem?_map, List.getElem?_eq_getElem hj, hj2]; rfl)
              cases ha'
              exact ⟨_, hh⟩
            obtain ⟨o, ho⟩ := hold
            rw [z, ngp] at ho
            cases ho
          refine s_appL G4.1 (ev_var rfl) (el_catR (ev_var rfl) (el_lst (ea_cons (ev_var rfl) ea_nil) (by show 1 ≤ 100000; decide)) hra4 (by show (nV row).length + 1 ≤ 100000; have hl := ((spl_in a i row).mp (List.mem_of_getElem? hrow)).1; rw [nV_len]; omega)) (by rw [List.length_map]; omega) fun np H5 nnp e5 h5 => ?_
          have hnp : np ≠ gp := fun z => by rw [z, G4.1] at nnp; cases nnp
          refine ⟨gs2 ++ [np], some (.int (k : Int)), rfl, Ex.mut (e4.trans e5) ngp, by rw [upd_Ne (e5 _ _ hra4) hgr], ?_⟩
          rw [List.range_succ, List.map_append, ← List.append_assoc]
          refine (G4.ex e5).push (r := row ++ [k]) ?_ hnp
          rw [← nV_app]
          exact h5
        · rintro σ' H4 ⟨gs2, z6, rfl, e4, hra4, G4⟩
          refine ⟨gs2, _, _, rfl, e4, ?_⟩
          rw [flat_take _ hrow]
          have en : ((a - row.sum + 1 : Nat) : Int).toNat = a - row.sum + 1 := by omega
          rw [en] at G4
          exact G4
      · rintro σ' H3 ⟨gs, y5, y6, rfl, e3, G⟩
        rw [hrl, List.take_length] at G
        have G' : LLI H3 gp gs (spl a (i + 1)) := G
        refine s_asgL (el_list (K := K) (ev_var rfl) (sq_of G'.1)) fun rp2 H4 nrp2 e4 h4 => ⟨rp2, gs, _, _, _, _, rfl, (e.trans e3).trans e4, h4, G'.2.1.ex e4, fun hm => ?_⟩
        obtain ⟨j, hj, hj2⟩ := List.getElem_of_mem hm
        obtain ⟨a', r', ha', _, hh⟩ := G'.2.1.get (i := j) (x := .ref rp2) (by rw [List.getElem?_map, List.getElem?_eq_getElem hj, hj2]; rfl)
        cases ha'
        rw [nrp2] at hh
        cases hh
    · rintro σ' H' ⟨rp, as, x3, x4, x5, x6, rfl, e, L⟩
      have en : ((m - 1 : Nat) : Int).toNat = m - 1 := by omega
      rw [en] at L
      have hrows := spl_small (a := a) (t := m - 1) h3 (by omega)
      have hrl : (as.map V.ref).length = (spl a (m - 1)).length := by rw [List.length_map, L.2.1.len]
      refine ell_lc (K := K) (splits m a) (ev_var rfl) (sq_of L.1) (by rw [hrl]; exact List.length_map _) (by omega) (fun _ => rfl) (fun i x r H1 e1 hx hr => ?_) H' (Ex.refl H') _ fun p ps H2 np e2 hp LL2 => q p ps H2 (fresh_back e np) (e.trans e2) hp LL2
      obtain ⟨ra, row, rfl, hrow, hra⟩ := (L.ex e1).2.1.get hx
      have hrs := (spl_in a (m - 1) row).mp (List.mem_of_getElem? hrow)
      have er : r = row ++ [a - row.sum] := by
        unfold splits at hr
        rw [List.getElem?_map, hrow] at hr
        exact (Option.some.inj hr).symm
      rw [er, ← nV_app]
      have ea : (a : Int) - ((row.sum : Nat) : Int) = ((a - row.sum : Nat) : Int) := by omega
      exact el_catR (ev_var rfl) (el_lst (ea_cons (ev_is (ev_op (ev_var rfl) (ev_is (ev_sumR (ns := nI row) (ev_var rfl) (by rw [← nV_nI]; exact sq_of hra)) (congrArg V.int (sum_nI row))) rv_I0) (congrArg V.int ea)) ea_nil) (by show 1 ≤ 100000; decide)) hra (by show (nV row).length + 1 ≤ 100000; rw [nV_len]; omega)
end
end My

set_option Elab.async false
set_option linter.all false
set_option maxRecDepth 100000
set_option maxHeartbeats 4000000
namespace My
open PySem PySem.Spec PyProof.Rows L2 Evl
theorem set_sum : ∀ {l : List Nat} {i : Nat} (v : Nat), i < l.length → (l.set i v).sum + l.getD i 0 = l.sum + v
  | x :: l, 0, v, _ => by
    show (v :: l).sum + x = (x :: l).sum + v
    rw [List.sum_cons, List.sum_cons]; omega
  | x :: l, i + 1, v, h => by
    have ih := set_sum (l := l) (i := i) v (by simpa using h)
    show (x :: l.set i v).sum + l.getD i 0 = (x :: l).sum + v
    rw [List.sum_cons, List.sum_cons]; omega
theorem getD_le_sum : ∀ {l : List Nat} {i : Nat}, l.getD i 0 ≤ l.sum
  | [], i => by simp
  | x :: l, 0 => by show x ≤ (x :: l).sum; rw [List.sum_cons]; omega
  | x :: l, i + 1 => by
    have ih := getD_le_sum (l := l) (i := i)
    show l.getD i 0 ≤ (x :: l).sum
    rw [List.sum_cons]; omega
theorem one_sum {m o a : Nat} (h : o < m) : ((List.range m).map fun k => if k = o then a else 0).sum = a := by
  have key : ∀ n, ((List.range n).map fun k => if k = o then a else 0).sum = if o < n then a else 0 := by
    intro n
    induction n with
    | zero => simp
    | succ n ih =>
      rw [sum_range_last, ih]
      by_cases h1 : o < n
      · rw [if_pos h1, if_neg (by omega), if_pos (by omega)]; omega
      · by_cases h2 : n = o
        · rw [if_neg h1, if_pos h2, if_pos (by omega)]; omega
        · rw [if_neg h1, if_neg h2, if_neg (by omega)]
  rw [key, if_pos h]
def SA66 : List Int := [6, 60, 60, 400] ++ List.replicate 56 401
theorem okSA66 : OkSizes SA66 := ⟨by decide, by decide⟩
def SB66 : List Int := [6, 401, 400, 400, 46] ++ List.replicate 46 8
theorem okSB66 : OkSizes SB66 := ⟨by decide, by decide⟩
def SC66 : List Int := [2, 60, 2, 401, 4, 9]
theorem okSC66 : OkSizes SC66 := ⟨by decide, by decide⟩
section
variable {P : Program} {w : World} {K : PySem.W.Frag} {mg : Str → Option Value} {base : Heap}
abbrev s_law_split : Stmt := top 15
abbrev N_law_split : List Str := ["many", "amount", "row", "parts", "one", "two", "left", "k", "units", "part"]
theorem sc_law_split : FnScope N_law_split ["many", "amount", "row"] (defScope s_law_split) := ⟨rfl, rfl, rfl, by decide +kernel, rfl, by decide +kernel, by decide +kernel⟩
def spSplit (K : PySem.W.Frag) : Sp := fun vs H Q _ => ∃ (m a : Nat) (rp : Addr) (ds : List Int), vs = [.int (m : Int), .int (a : Int), .ref rp] ∧ SqL K H rp (ds.map V.int) ∧ Within ds SA66 ∧ 1 ≤ m ∧ m ≤ 60 ∧ a ≤ 400 ∧ ∀ l : List Nat, l.length = m → l.sum = a → RetL (nV l) H Q
theorem ok_law_split (D_law_even : Dn P w K mg base 1 "_law_even" s_law_even ["many", "amount"] spEven) (T : TT mg) (F : At K mg "_law_split" s_law_split) : Dn P w K mg base 2 "_law_split" s_law_split ["many", "amount", "row"] (spSplit K) := by
  refine dn_ok F sc_law_split (fun _ _ _ _ _ _ us hl => match us, hl with | [_, _, _], _ => rfl) (fun vs H Q E h => ?_) (fun f cdv A outer t H vs Q E hr h => ?_)
  · obtain ⟨m, a, rp, ds, rfl, _⟩ := h; rfl
  · obtain ⟨m, a, rp, ds, rfl, hS, hW, h1, h2, h3, q⟩ := h
    have hdl : ds.length = 60 := hW.len
    have dat : ∀ i : Nat, i < 60 → atI (ds.map V.int) (i : Int) = some (.int (ds.getD i 0)) := fun i hi => at_d (by omega)
    refine ⟨_, (pss_cons (ps_set (i := 3) sc_law_split.nd rfl (Or.inl rfl) (pe_dn D_law_even hr (by decide) rfl (pa_cons (pv 0) (pa_cons (pv 1) pa_nil))))
      (pss_cons (ps_set (i := 4) sc_law_split.nd rfl (Or.inr rfl) (pe_op op_mod (pe_callTy call_int1 (by rfl) T.int_ (by decide +kernel) (pa_cons (pe_ix ix_list (pv 2) pe_int (fun _ _ => rfl)) pa_nil)) (pv 0)))
      (pss_cons (ps_set (i := 5) sc_law_split.nd rfl (Or.inl rfl) (pe_op op_mod (pe_callTy call_int1 (by rfl) T.int_ (by decide +kernel) (pa_cons (pe_ix ix_list (pv 2) pe_int (fun _ _ => rfl)) pa_nil)) (pv 0)))
      (pss_cut (ps_if (pt_cmpR op_eq (pe_ix ix_list (pv 2) pe_int (fun _ _ => rfl)) pe_int (nomark _)) (pss_cons (ps_set (i := 6) sc_law_split.nd rfl (Or.inl rfl) (pv 1))
        (pss_cons (ps_set (i := 3) sc_law_split.nd rfl (Or.inl rfl) (pe_lst pa_nil))
        (pss_cons (ps_for PassesOwn.never rfl (pi_range1 (by rfl) T.range (pa_cons (pe_op op_sub (pv 0) pe_int) pa_nil)) (pg_name (i := 7) sc_law_split.nd rfl (Or.inl rfl))
          (pss_cons (ps_set (i := 9) sc_law_split.nd rfl (Or.inl rfl) (pe_op op_mod (pe_callTy call_int1 (by rfl) T.int_ (by decide +kernel) (pa_cons (pe_ix ix_list (pv 2) (pe_op op_add pe_int (pe_op op_mod (pe_callTy call_int1 (by rfl) T.int_ (by decide +kernel) (pa_cons (pv 7) pa_nil)) pe_int)) (fun _ _ => rfl)) pa_nil)) (pe_op op_add (pv 6) pe_int)))
            (pss_cons (ps_expr (pe_bm PySem.F.plainAttrs_list PySem.F.slot_list_append PySem.F.type_list_append mt_append (pv 3) (pa_cons (pv 9) pa_nil)))
            (pss_one (ps_set (i := 6) sc_law_split.nd rfl (Or.inl rfl) (pe_op op_sub (pv 6) (pv 9)))))))
        (pss_one (ps_expr (pe_bm PySem.F.plainAttrs_list PySem.F.slot_list_append PySem.F.type_list_append mt_append (pv 3) (pa_cons (pv 6) pa_nil))))))) pss_nil)
      (pss_cut (ps_if (pt_cmpR op_eq (pe_ix ix_list (pv 2) pe_int (fun _ _ => rfl)) pe_int (nomark _)) (pss_one (ps_set (i := 3) sc_law_split.nd rfl (Or.inl rfl) (pe_op op_cat (pe_slice sl_list (pv 3) (po_some (pv 4)) po_none) (pe_slice sl_list (pv 3) po_none (po_some (pv 4)))))) pss_nil)
      (pss_cut (ps_if (PW.pt (pw_or (pt_cmpR op_eq (pe_ix ix_list (pv 2) pe_int (fun _ _ => rfl)) pe_int (nomark _)) (pw_or1 (pt_cmpR op_eq (pe_ix ix_list (pv 2) pe_int (fun _ _ => rfl)) pe_int (nomark _))))) (pss_cons (ps_set (i := 8) sc_law_split.nd rfl (Or.inl rfl) (pe_callB (call_min2 rfl) (by rfl) T.min (by decide +kernel) (pa_cons (pe_ix ix_list (pv 3) (pv 4) (fun _ _ => rfl)) (pa_cons pe_int pa_nil))))
        (pss_cons (ps_if (pt_cmpR op_eq (pe_ix ix_list (pv 2) pe_int (fun _ _ => rfl)) pe_int (nomark _)) (pss_one (ps_set (i := 8) sc_law_split.nd rfl (Or.inl rfl) (pe_op op_mod (pe_callTy call_int1 (by rfl) T.int_ (by decide +kernel) (pa_cons (pe_ix ix_list (pv 2) pe_int (fun _ _ => rfl)) pa_nil)) (pe_op op_add (pe_ix ix_list (pv 3) (pv 4) (fun _ _ => rfl)) pe_int)))) pss_nil)
        (pss_cons (ps_asg (pe_op op_sub (pe_ix ix_list (pv 3) (pv 4) (fun _ _ => rfl)) (pv 8)) (pg_sub (pv 3) (pv 4) set_list))
        (pss_one (ps_asg (pe_op op_add (pe_ix ix_list (pv 3) (pv 5) (fun _ _ => rfl)) (pv 8)) (pg_sub (pv 3) (pv 5) set_list)))))) pss_nil)
      (pss_cut (ps_if (pt_cmpR op_eq (pe_ix ix_list (pv 2) pe_int (fun _ _ => rfl)) pe_int (nomark _)) (pss_one (ps_setLc (i := 3) (own := [("k", 7)]) (g := gName 7) (tt := tYes) rfl sc_law_split.nd rfl rfl (sw_true rfl rfl rfl (by decide +kernel)) (pi_range1 (by rfl) T.range (pa_cons (pv 0) pa_nil)) (blkOk_by (own := [("k", 7)]) (N := N_law_split) (sc := defScope s_law_split) (by decide +kernel)) (fun _ _ _ _ _ => pg_name (i := 7) sc_law_split.nd rfl (Or.inl rfl)) (fun _ _ _ _ _ => pts_nil) (fun _ _ _ _ _ => (pe_op op_mul (pe_callTy call_int1 (by rfl) T.int_ (by decide +kernel) (pa_cons (pe_cmpR op_eq (pv 7) (pv 4) (nomark _)) pa_nil)) (pv 1))))) pss_nil)
      (pss_cut (ps_if (pt_cmpR op_eq (pe_ix ix_list (pv 2) pe_int (fun _ _ => rfl)) pe_int (nomark _)) (pss_cons (ps_setLc (i := 3) (own := [("k", 7)]) (g := gName 7) (tt := tYes) rfl sc_law_split.nd rfl rfl (sw_true rfl rfl rfl (by decide +kernel)) (pi_range1 (by rfl) T.range (pa_cons (pv 0) pa_nil)) (blkOk_by (own := [("k", 7)]) (N := N_law_split) (sc := defScope s_law_split) (by decide +kernel)) (fun _ _ _ _ _ => pg_name (i := 7) sc_law_split.nd rfl (Or.inl rfl)) (fun _ _ _ _ _ => pts_nil) (fun _ _ _ _ _ => (pe_op op_fdiv (pv 1) (pv 0))))
        (pss_one (ps_asg (pe_op op_add (pe_ix ix_list (pv 3) (pv 4) (fun _ _ => rfl)) (pe_op op_mod (pe_callTy call_int1 (by rfl) T.int_ (by decide +kernel) (pa_cons (pv 1) pa_nil)) (pv 0))) (pg_sub (pv 3) (pv 4) set_list)))) pss_nil)
      (pss_one (ps_ret (pv 3))))))))))), ?_⟩
    refine q_asgL (el_call (ea_cons (ev_var rfl) (ea_cons (ev_var rfl) ea_nil)) (sl_even h1 (by omega))) fun p0 H1 np0 e1 hp0 => ?_
    have o0 := Int.emod_nonneg (ds.getD 1 0) (show (m : Int) ≠ 0 by omega)
    have o1 := Int.emod_lt_of_pos (ds.getD 1 0) (show (0 : Int) < m by omega)
    have t0 := Int.emod_nonneg (ds.getD 2 0) (show (m : Int) ≠ 0 by omega)
    have t1 := Int.emod_lt_of_pos (ds.getD 2 0) (show (0 : Int) < m by omega)
    obtain ⟨o, ho⟩ : ∃ o : Nat, ds.getD 1 0 % (m : Int) = (o : Int) := ⟨(ds.getD 1 0 % (m : Int)).toNat, by omega⟩
    obtain ⟨tw, htw⟩ : ∃ o : Nat, ds.getD 2 0 % (m : Int) = (o : Int) := ⟨(ds.getD 2 0 % (m : Int)).toNat, by omega⟩
    have hom : o < m := by omega
    have htm : tw < m := by omega
    refine q_asg (v := .int (o : Int)) (ev_is (ev_op (ev_int (ev_op (ev_var rfl) ev_c (rv_ixL (K := K) (ex_l e1 hS) (dat 1 (by decide))))) (ev_var rfl) (rv_I (by omega))) (congrArg V.int ho)) fun H2 e2 => ?_
    refine q_asg (v := .int (tw : Int)) (ev_is (ev_op (ev_int (ev_op (ev_var rfl) ev_c (rv_ixL (K := K) (ex_l (e1.trans e2) hS) (dat 2 (by decide))))) (ev_var rfl) (rv_I (by omega))) (congrArg V.int htw)) fun H3 e3 => ?_
    have e13 := (e1.trans e2).trans e3
    let M : L2.St → Hp → Prop := fun σ' H' => ∃ (pp : Addr) (l : List Nat) (x6 x7 x8 x9 : Option V), σ' = [some (.int (m : Int)), some (.int (a : Int)), some (.ref rp), some (.ref pp), some (.int (o : Int)), some (.int (tw : Int)), x6, x7, x8, x9] ∧ Ex H H' ∧ H pp = none ∧ H' pp = some (.lst (nV l)) ∧ l.length = m ∧ l.sum = a
    have ee : (evenN m a).sum = a := even_sum h1
    refine q_cutIf M (et_test (ev_op (ev_op (ev_var rfl) ev_c (rv_ixL (K := K) (ex_l e13 hS) (dat 0 (by decide)))) ev_c (rv_eq rfl))) (fun _ H4 e4 => ?_) (fun H4 e4 => ⟨p0, evenN m a, none, none, none, none, rfl, e13.trans e4, np0, (e2.trans (e3.trans e4)) _ _ hp0, even_len m a, ee⟩) ?_
    · refine q_asg (ev_var rfl) fun H5 e5 => ?_
      refine q_asgL (el_lst ea_nil (by decide)) fun pp H6 npp e6 hpp => ?_
      have e16 := ((e13.trans e4).trans e5).trans e6
      have npp0 : H pp = none := fresh_back ((e13.trans e4).trans e5) npp
      have em : (m : Int) - 1 = ((m - 1 : Nat) : Int) := by omega
      refine q_forR1 (ea_cons (ev_is (ev_op (ev_var rfl) ev_c rv_I0) (congrArg V.int em)) ea_nil) ⟨by omega, by omega⟩
        (fun i σ' H' => ∃ (l : List Nat) (le : Nat) (x7 x9 : Option V), σ' = [some (.int (m : Int)), some (.int (a : Int)), some (.ref rp), some (.ref pp), some (.int (o : Int)), some (.int (tw : Int)), some (.int (le : Int)), x7, none, x9] ∧ Ex H H' ∧ H' pp = some (.lst (nV l)) ∧ l.length = i ∧ l.sum + le = a)
        (fun H7 e7 => ⟨[], a, none, none, rfl, e16.trans e7, e7 _ _ hpp, rfl, by simp⟩) ?_ ?_
      · rintro i σ' H' hi ⟨l, le, x7, x9, rfl, e, hl, hll, hls⟩
        have k0 := Int.emod_nonneg (i : Int) (show (56 : Int) ≠ 0 by decide)
        have k1 := Int.emod_lt_of_pos (i : Int) (show (0 : Int) < 56 by decide)
        obtain ⟨j, hj⟩ : ∃ j : Nat, (4 : Int) + (i : Int) % 56 = (j : Int) := ⟨(4 + (i : Int) % 56).toNat, by omega⟩
        have r0 := Int.emod_nonneg (ds.getD j 0) (show (le : Int) + 1 ≠ 0 by omega)
        have r1 := Int.emod_lt_of_pos (ds.getD j 0) (show (0 : Int) < (le : Int) + 1 by omega)
        obtain ⟨z, hz⟩ : ∃ z : Nat, ds.getD j 0 % ((le : Int) + 1) = (z : Int) := ⟨(ds.getD j 0 % ((le : Int) + 1)).toNat, by omega⟩
        refine q_asg (v := .int (z : Int)) (ev_is (ev_op (ev_int (ev_op (ev_var rfl) (ev_is (ev_op ev_c (ev_op (ev_int (ev_var rfl)) ev_c (rv_I (by decide))) rv_I0) (congrArg V.int hj)) (rv_ixL (K := K) (ex_l e hS) (dat j (by omega))))) (ev_op (ev_var rfl) ev_c rv_I0) (rv_I (by omega))) (congrArg V.int hz)) fun H7 e7 => ?_
        refine q_app (e7 _ _ hl) (ev_var rfl) (ev_var rfl) (by rw [nV_len]; omega) fun H8 e8 => ?_
        have elz : (le : Int) - (z : Int) = ((le - z : Nat) : Int) := by omega
        refine s_asg (ev_is (ev_op (ev_var rfl) (ev_var rfl) rv_I0) (congrArg V.int elz)) fun H9 e9 => ⟨l ++ [z], le - z, some (.int (i : Int)), some (.int (z : Int)), rfl, (Ex.mut ((e.trans e7).trans e8) npp0).trans e9, ?_, by rw [List.length_append]; simp [hll], by rw [List.sum_append, List.sum_singleton]; omega⟩
        rw [← nV_app]
        exact e9 _ _ upd_same
      · rintro σ' H' ⟨l, le, x7, x9, rfl, e, hl, hll, hls⟩
        refine s_app hl (ev_var rfl) (ev_var rfl) (by rw [nV_len]; omega) fun H8 e8 => ⟨pp, l ++ [le], _, _, _, _, rfl, Ex.mut (e.trans e8) npp0, npp0, ?_, by rw [List.length_append]; simp; omega, by rw [List.sum_append, List.sum_singleton]; omega⟩
        rw [← nV_app]
        exact upd_same
    rintro σ' H4 ⟨pp, l, x6, x7, x8, x9, rfl, e4, npp, hpp, hll, hls⟩
    refine q_cutIf M (et_test (ev_op (ev_op (ev_var rfl) ev_c (rv_ixL (K := K) (ex_l e4 hS) (dat 0 (by decide)))) ev_c (rv_eq rfl))) (fun _ H5 e5 => ?_) (fun H5 e5 => ⟨pp, l, x6, x7, x8, x9, rfl, e4.trans e5, npp, e5 _ _ hpp, hll, hls⟩) ?_
    · have hp5 := e5 _ _ hpp
      have hc1 : cutV (nV l) (some (o : Int)) none = nV (l.drop o) := by
        unfold nV
        rw [cutV_L, cutL_map, cutL_from (by omega), Int.toNat_natCast]
      have hc2 : cutV (nV l) none (some (o : Int)) = nV (l.take o) := by
        unfold nV
        rw [cutV_L, cutL_map, cutL_to (by omega), Int.toNat_natCast]
      refine s_asgL (xs := nV (l.drop o) ++ nV (l.take o)) (el_cat (by rw [← hc1]; exact el_sl (ev_var rfl) (eo_some (ev_var rfl)) eo_none (sq_of hp5)) (by rw [← hc2]; exact el_sl (ev_var rfl) eo_none (eo_some (ev_var rfl)) (sq_of hp5)) (by rw [nV_len, nV_len, List.length_drop, List.length_take]; omega)) fun p6 H6 np6 e6 hp6 => ?_
      refine ⟨p6, l.drop o ++ l.take o, _, _, _, _, rfl, (e4.trans e5).trans e6, fresh_back (e4.trans e5) np6, ?_, by rw [List.length_append, List.length_drop, List.length_take]; omega, ?_⟩
      · rw [hp6]
        unfold nV
        rw [List.map_append]
      · rw [List.sum_append]
        have := congrArg List.sum (List.take_append_drop o l)
        rw [List.sum_append] at this
        omega
    clear hpp npp hll hls e4
    rintro σ' H4 ⟨pp, l, x6, x7, x8, x9, rfl, e4, npp, hpp, hll, hls⟩
    refine q_cutIf M (et_or (et_test (ev_op (ev_op (ev_var rfl) ev_c (rv_ixL (K := K) (ex_l e4 hS) (dat 0 (by decide)))) ev_c (rv_eq rfl))) fun _ => et_test (ev_op (ev_op (ev_var rfl) ev_c (rv_ixL (K := K) (ex_l e4 hS) (dat 0 (by decide)))) ev_c (rv_eq rfl))) (fun _ H5 e5 => ?_) (fun H5 e5 => ⟨pp, l, x6, x7, x8, x9, rfl, e4.trans e5, npp, e5 _ _ hpp, hll, hls⟩) ?_
    · have hp5 := e5 _ _ hpp
      have lat : ∀ i : Nat, i < m → atI (nV l) (i : Int) = some (.int (l.getD i 0 : Nat)) := fun i hi => at_nV (by omega)
      have u0 := Int.emod_nonneg (ds.getD 3 0) (show ((l.getD o 0 : Nat) : Int) + 1 ≠ 0 by omega)
      have u1 := Int.emod_lt_of_pos (ds.getD 3 0) (show (0 : Int) < ((l.getD o 0 : Nat) : Int) + 1 by omega)
      refine q_asg (v := .int ((min (l.getD o 0) 1 : Nat) : Int)) (ev_is (ev_min2 (ev_op (ev_var rfl) (ev_var rfl) (rv_ixL (K := K) (sq_of hp5) (lat o hom))) ev_c) (congrArg V.int (min2_nat (l.getD o 0) 1))) fun H6 e6 => ?_
      obtain ⟨u, hu, hul⟩ : ∃ u : Nat, (u : Int) = (if ds.getD 0 0 = 3 then ds.getD 3 0 % (((l.getD o 0 : Nat) : Int) + 1) else ((min (l.getD o 0) 1 : Nat) : Int)) ∧ u ≤ l.getD o 0 := by
        by_cases h3 : ds.getD 0 0 = 3
        · rw [if_pos h3]
          exact ⟨(ds.getD 3 0 % (((l.getD o 0 : Nat) : Int) + 1)).toNat, by omega, by omega⟩
        · rw [if_neg h3]
          exact ⟨min (l.getD o 0) 1, rfl, Nat.min_le_left _ _⟩
      have e46 := (e4.trans e5).trans e6
      refine q_ifSet (v := .int (u : Int)) (et_test (ev_op (ev_op (ev_var rfl) ev_c (rv_ixL (K := K) (ex_l e46 hS) (dat 0 (by decide)))) ev_c (rv_eq rfl))) (fun hb H7 e7 => ?_) (fun hb => ?_) fun H7 e7 => ?_
      · have h3 : ds.getD 0 0 = 3 := V.int.inj (of_decide_eq_true hb)
        rw [if_pos h3] at hu
        rw [hu]
        exact ev_op (ev_int (ev_op (ev_var rfl) ev_c (rv_ixL (K := K) (ex_l (e46.trans e7) hS) (dat 3 (by decide))))) (ev_op (ev_op (ev_var rfl) (ev_var rfl) (rv_ixL (K := K) (sq_of (e7 _ _ (e6 _ _ hp5))) (lat o hom))) ev_c rv_I0) (rv_I (by omega))
      · have h3 : ¬ ds.getD 0 0 = 3 := fun z => of_decide_eq_false hb (congrArg V.int z)
        rw [if_neg h3] at hu
        rw [hu]
        rfl
      have hp7 := e7 _ _ (e6 _ _ hp5)
      have s1 := set_sum (l := l) (i := o) (l.getD o 0 - u) (by omega)
      have es1 : ((l.getD o 0 : Nat) : Int) - (u : Int) = ((l.getD o 0 - u : Nat) : Int) := by omega
      refine q_setL (v := .int ((l.getD o 0 - u : Nat) : Int)) hp7 (ev_is (ev_op (ev_op (ev_var rfl) (ev_var rfl) (rv_ixL (K := K) (sq_of hp7) (lat o hom))) (ev_var rfl) rv_I0) (congrArg V.int es1)) (ev_var rfl) (ev_var rfl) (by rw [nV_len]; omega) fun H8 e8 => ?_
      rw [nV_set]
      generalize hl2 : l.set o (l.getD o 0 - u) = l2 at s1 ⊢
      have hl2l : l2.length = m := by rw [← hl2, List.length_set]; exact hll
      have s2 := set_sum (l := l2) (i := tw) (l2.getD tw 0 + u) (by omega)
      have es2 : ((l2.getD tw 0 : Nat) : Int) + (u : Int) = ((l2.getD tw 0 + u : Nat) : Int) := by omega
      have hp8 : (upd H8 pp (.lst (nV l2))) pp = some (.lst (nV l2)) := upd_same
      refine s_setL (v := .int ((l2.getD tw 0 + u : Nat) : Int)) hp8 (ev_is (ev_op (ev_op (ev_var rfl) (ev_var rfl) (rv_ixL (K := K) (sq_of hp8) (at_nV (by omega)))) (ev_var rfl) rv_I0) (congrArg V.int es2)) (ev_var rfl) (ev_var rfl) (by rw [nV_len]; omega) fun H9 e9 => ?_
      rw [nV_set]
      refine ⟨pp, l2.set tw (l2.getD tw 0 + u), _, _, _, _, rfl, Ex.mut ((Ex.mut ((e46.trans e7).trans e8) npp).trans e9) npp, npp, upd_same, by rw [List.length_set]; exact hl2l, by omega⟩
    clear hpp npp hll hls e4
    rintro σ' H4 ⟨pp, l, x6, x7, x8, x9, rfl, e4, npp, hpp, hll, hls⟩
    refine q_cutIf M (et_test (ev_op (ev_op (ev_var rfl) ev_c (rv_ixL (K := K) (ex_l e4 hS) (dat 0 (by decide)))) ev_c (rv_eq rfl))) (fun _ H5 e5 => ?_) (fun H5 e5 => ⟨pp, l, x6, x7, x8, x9, rfl, e4.trans e5, npp, e5 _ _ hpp, hll, hls⟩) ?_
    · have hv : nV ((List.range m).map fun k => if k = o then a else 0) = given ((m : Nat) : Int).toNat (fun _ => true) (fun k => V.int ((if k = o then a else 0 : Nat) : Int)) := by
        have en : ((m : Nat) : Int).toNat = m := by omega
        rw [en]
        have := given_map (List.range m) 0 (fun (k : Nat) => V.int ((if k = o then a else 0 : Nat) : Int)) (fun k => V.int ((if k = o then a else 0 : Nat) : Int)) (fun i hi => by
          rw [List.length_range] at hi
          rw [List.getD_eq_getElem?_getD, List.getElem?_range hi]
          rfl)
        rw [List.length_range] at this
        rw [this]
        unfold nV
        rw [List.map_map]
        rfl
      refine s_asgL (xs := nV ((List.range m).map fun k => if k = o then a else 0)) (by
        rw [hv]
        refine el_lcR1 (n := (m : Int)) (fun _ => true) _ (ea_cons (ev_var rfl) ea_nil) ⟨by omega, by omega⟩ (fun _ => rfl) (fun i H1 e1 hi => et_yes) (fun i H1 e1 hi _ => ?_)
        refine ev_is (ev_op (ev_intB (ev_op (ev_var rfl) (ev_var rfl) (rv_eq rfl))) (ev_var rfl) (rv_I (Or.inl ?_))) (congrArg V.int ?_)
        · split <;> decide
        · by_cases hk : i = o
          · rw [if_pos hk, decide_eq_true (by rw [hk]), if_pos rfl]; omega
          · rw [if_neg hk, decide_eq_false (fun z => hk (by have := V.int.inj z; omega)), if_neg (by decide)]; omega) fun p6 H6 np6 e6 hp6 => ?_
      exact ⟨p6, _, _, _, _, _, rfl, (e4.trans e5).trans e6, fresh_back (e4.trans e5) np6, hp6, by simp, one_sum hom⟩
    clear hpp npp hll hls e4
    rintro σ' H4 ⟨pp, l, x6, x7, x8, x9, rfl, e4, npp, hpp, hll, hls⟩
    refine q_cutIf M (et_test (ev_op (ev_op (ev_var rfl) ev_c (rv_ixL (K := K) (ex_l e4 hS) (dat 0 (by decide)))) ev_c (rv_eq rfl))) (fun _ H5 e5 => ?_) (fun H5 e5 => ⟨pp, l, x6, x7, x8, x9, rfl, e4.trans e5, npp, e5 _ _ hpp, hll, hls⟩) ?_
    · have hv : nV (List.replicate m (a / m)) = given ((m : Nat) : Int).toNat (fun _ => true) (fun _ => V.int ((a / m : Nat) : Int)) := by
        have en : ((m : Nat) : Int).toNat = m := by omega
        rw [en]
        have := given_map (List.range m) 0 (fun (_ : Nat) => V.int ((a / m : Nat) : Int)) (fun _ => V.int ((a / m : Nat) : Int)) (fun i hi => rfl)
        rw [List.length_range] at this
        rw [this]
        unfold nV
        rw [List.map_replicate, List.map_const', List.length_range]
      refine q_asgL (xs := nV (List.replicate m (a / m))) (by
        rw [hv]
        exact el_lcR1 (n := (m : Int)) (fun _ => true) _ (ea_cons (ev_var rfl) ea_nil) ⟨by omega, by omega⟩ (fun _ => rfl) (fun i H1 e1 hi => et_yes) (fun i H1 e1 hi _ => ev_op (ev_var rfl) (ev_var rfl) (rv_I ⟨by omega, by omega⟩))) fun p6 H6 np6 e6 hp6 => ?_
      have rat : atI (nV (List.replicate m (a / m))) (o : Int) = some (.int ((a / m : Nat) : Int)) := by
        have := at_nV (l := List.replicate m (a / m)) (i := o) (by rw [List.length_replicate]; exact hom)
        rw [this, List.getD_eq_getElem?_getD, List.getElem?_replicate, if_pos hom]
        rfl
      have ev : ((a / m : Nat) : Int) + (a : Int) % (m : Int) = ((a / m + a % m : Nat) : Int) := by rw [Int.natCast_add, Int.natCast_emod]
      refine s_setL (v := .int ((a / m + a % m : Nat) : Int)) hp6 (ev_is (ev_op (ev_op (ev_var rfl) (ev_var rfl) (rv_ixL (K := K) (sq_of hp6) rat)) (ev_op (ev_int (ev_var rfl)) (ev_var rfl) (rv_I (by omega))) rv_I0) (congrArg V.int ev)) (ev_var rfl) (ev_var rfl) (by rw [nV_len, List.length_replicate]; exact hom) fun H7 e7 => ?_
      rw [nV_set]
      have np : H p6 = none := fresh_back (e4.trans e5) np6
      refine ⟨p6, _, _, _, _, _, rfl, Ex.mut (((e4.trans e5).trans e6).trans e7) np, np, upd_same, by rw [List.length_set, List.length_replicate], ?_⟩
      have s1 := set_sum (l := List.replicate m (a / m)) (i := o) (a / m + a % m) (by rw [List.length_replicate]; exact hom)
      rw [List.getD_eq_getElem?_getD, List.getElem?_replicate, if_pos hom, Option.getD_some, List.sum_replicate_nat] at s1
      have hd := Nat.div_add_mod a m
      omega
    clear hpp npp hll hls e4
    rintro σ' H4 ⟨pp, l, x6, x7, x8, x9, rfl, e4, npp, hpp, hll, hls⟩
    exact s_ret (ev_var rfl) fun H5 e5 => q l hll hls pp H5 npp (e4.trans e5) (e5 _ _ hpp)
end
end My

set_option Elab.async false
set_option linter.all false
set_option maxRecDepth 100000
set_option maxHeartbeats 4000000
namespace My
open PySem PySem.Spec PyProof.Rows L2 Evl
theorem given_nV {n : Nat} (g : Nat → Int) (h : ∀ i, 0 ≤ g i) : given n (fun _ => true) (fun i => V.int (g i)) = nV ((List.range n).map fun i => (g i).toNat) := by
  have := given_map (List.range n) 0 (fun (k : Nat) => V.int (g k)) (fun k => V.int (g k)) (fun i hi => by
    rw [List.length_range] at hi
    rw [List.getD_eq_getElem?_getD, List.getElem?_range hi]
    rfl)
  rw [List.length_range] at this
  rw [this]
  unfold nV
  rw [List.map_map]
  refine List.map_congr_left fun i _ => ?_
  show V.int (g i) = V.int (((g i).toNat : Nat) : Int)
  rw [Int.toNat_of_nonneg (h i)]
section
variable {P : Program} {w : World} {K : PySem.W.Frag} {mg : Str → Option Value} {base : Heap}
abbrev s_law_lengths : Stmt := top 16
abbrev N_law_lengths : List Str := ["row", "found", "here", "length", "k"]
theorem sc_law_lengths : FnScope N_law_lengths ["row"] (defScope s_law_lengths) := ⟨rfl, rfl, rfl, by decide +kernel, rfl, by decide +kernel, by decide +kernel⟩
def spLens (K : PySem.W.Frag) : Sp := fun vs H Q _ => ∃ (rp : Addr) (ds : List Int), vs = [.ref rp] ∧ SqL K H rp (ds.map V.int) ∧ Within ds SB66 ∧ ∀ l : List Nat, l.length ≤ 400 → RetL (nV l) H Q
theorem ok_law_lengths (T : TT mg) (F : At K mg "_law_lengths" s_law_lengths) : Dn P w K mg base 1 "_law_lengths" s_law_lengths ["row"] (spLens K) := by
  refine dn_ok F sc_law_lengths (fun _ _ _ _ _ _ us hl => match us, hl with | [_], _ => rfl) (fun vs H Q E h => ?_) (fun f cdv A outer t H vs Q E hr h => ?_)
  · obtain ⟨rp, ds, rfl, _⟩ := h; rfl
  · obtain ⟨rp, ds, rfl, hS, hW, q⟩ := h
    have hdl : ds.length = 51 := hW.len
    have dat : ∀ i : Nat, i < 51 → atI (ds.map V.int) (i : Int) = some (.int (ds.getD i 0)) := fun i hi => at_d (by omega)
    have datI : ∀ i : Int, 0 ≤ i → i < 51 → atI (ds.map V.int) i = some (.int (ds.getD i.toNat 0)) := fun i h0 h1 => by
      have := dat i.toNat (by omega)
      rwa [Int.toNat_of_nonneg h0] at this
    obtain ⟨a0, a1⟩ := hW.get 0 (by decide)
    obtain ⟨b0, b1⟩ := hW.get 1 (by decide)
    obtain ⟨c0, c1⟩ := hW.get 2 (by decide)
    obtain ⟨g0, g1⟩ := hW.get 3 (by decide)
    obtain ⟨k0, k1⟩ := hW.get 4 (by decide)
    have a1' : ds.getD 0 0 < 6 := a1
    have b1' : ds.getD 1 0 < 401 := b1
    have c1' : ds.getD 2 0 < 400 := c1
    have g1' : ds.getD 3 0 < 400 := g1
    have k1' : ds.getD 4 0 < 46 := k1
    refine ⟨_, (pss_cons (ps_if (pt_cmpR op_lt (pe_ix ix_list (pv 0) pe_int (fun _ _ => rfl)) pe_int (nomark _)) (pss_one (ps_ret (pe_lc (te := tOp (rI0 fun i j => .int (i + j)) (tC (.int 1)) (tOp (rI (fun _ j => 0 < j) fun i j => .int (i % j)) (tCB rInt1 (tCons (tOp (rIxL K) (tVar 0) (tOp (rI0 fun i j => .int (i + j)) (tC (.int 5)) (tVar 4))) tNil)) (tOp (rI0 fun i j => .int (i + j)) (tC (.int 1)) (tOp (rI CMul fun i j => .int (i * j)) (tOp (rIxL K) (tVar 0) (tC (.int 0))) (tC (.int 7)))))) (own := [("k", 4)]) (g := gName 4) (tt := tYes) rfl sc_law_lengths.nd (pi_range1 (by rfl) T.range (pa_cons (pe_ix ix_list (pv 0) pe_int (fun _ _ => rfl)) pa_nil)) (blkOk_by (own := [("k", 4)]) (N := N_law_lengths) (sc := defScope s_law_lengths) (by decide +kernel)) (fun _ _ _ _ _ => pg_name (i := 4) sc_law_lengths.nd rfl (Or.inl rfl)) (fun _ _ _ _ _ => pts_nil) (fun _ _ _ _ _ => (pe_op op_add pe_int (pe_op op_mod (pe_callTy call_int1 (by rfl) T.int_ (by decide +kernel) (pa_cons (pe_ix ix_list (pv 0) (pe_op op_add pe_int (pv 4)) (fun _ _ => rfl)) pa_nil)) (pe_op op_add pe_int (pe_op op_mul (pe_ix ix_list (pv 0) pe_int (fun _ _ => rfl)) pe_int)))))))) pss_nil)
      (pss_cons (ps_if (pt_cmpR op_eq (pe_ix ix_list (pv 0) pe_int (fun _ _ => rfl)) pe_int (nomark _)) (pss_one (ps_ret (pe_lc (te := tOp (rI0 fun i j => .int (i + j)) (tC (.int 1)) (tOp (rIxL K) (tVar 0) (tC (.int 2)))) (own := [("k", 4)]) (g := gName 4) (tt := tYes) rfl sc_law_lengths.nd (pi_range1 (by rfl) T.range (pa_cons (pe_ix ix_list (pv 0) pe_int (fun _ _ => rfl)) pa_nil)) (blkOk_by (own := [("k", 4)]) (N := N_law_lengths) (sc := defScope s_law_lengths) (by decide +kernel)) (fun _ _ _ _ _ => pg_name (i := 4) sc_law_lengths.nd rfl (Or.inl rfl)) (fun _ _ _ _ _ => pts_nil) (fun _ _ _ _ _ => (pe_op op_add pe_int (pe_ix ix_list (pv 0) pe_int (fun _ _ => rfl))))))) pss_nil)
      (pss_cons (ps_if (pt_cmpR op_eq (pe_ix ix_list (pv 0) pe_int (fun _ _ => rfl)) pe_int (nomark _)) (pss_one (ps_ret (pe_lc (te := tOp (rI0 fun i j => .int (i + j)) (tC (.int 1)) (tOp (rI (fun _ j => 0 < j) fun i j => .int (i % j)) (tCB rInt1 (tCons (tOp (rI0 fun i j => .int (i + j)) (tVar 4) (tOp (rIxL K) (tVar 0) (tC (.int 2)))) tNil)) (tC (.int 400)))) (own := [("k", 4)]) (g := gName 4) (tt := tYes) rfl sc_law_lengths.nd (pi_range1 (by rfl) T.range (pa_cons (pe_ix ix_list (pv 0) pe_int (fun _ _ => rfl)) pa_nil)) (blkOk_by (own := [("k", 4)]) (N := N_law_lengths) (sc := defScope s_law_lengths) (by decide +kernel)) (fun _ _ _ _ _ => pg_name (i := 4) sc_law_lengths.nd rfl (Or.inl rfl)) (fun _ _ _ _ _ => pts_nil) (fun _ _ _ _ _ => (pe_op op_add pe_int (pe_op op_mod (pe_callTy call_int1 (by rfl) T.int_ (by decide +kernel) (pa_cons (pe_op op_add (pv 4) (pe_ix ix_list (pv 0) pe_int (fun _ _ => rfl))) pa_nil)) pe_int)))))) pss_nil)
      (pss_cons (ps_if (pt_cmpR op_eq (pe_ix ix_list (pv 0) pe_int (fun _ _ => rfl)) pe_int (nomark _)) (pss_one (ps_ret (pe_lc (te := tOp (rI0 fun i j => .int (i + j)) (tC (.int 1)) (tOp (rI (fun _ j => 0 < j) fun i j => .int (i % j)) (tCB rInt1 (tCons (tOp (rI CMul fun i j => .int (i * j)) (tVar 4) (tOp (rI0 fun i j => .int (i + j)) (tC (.int 1)) (tOp (rIxL K) (tVar 0) (tC (.int 2))))) tNil)) (tOp (rI0 fun i j => .int (i + j)) (tC (.int 1)) (tOp (rIxL K) (tVar 0) (tC (.int 3)))))) (own := [("k", 4)]) (g := gName 4) (tt := tYes) rfl sc_law_lengths.nd (pi_range1 (by rfl) T.range (pa_cons (pe_ix ix_list (pv 0) pe_int (fun _ _ => rfl)) pa_nil)) (blkOk_by (own := [("k", 4)]) (N := N_law_lengths) (sc := defScope s_law_lengths) (by decide +kernel)) (fun _ _ _ _ _ => pg_name (i := 4) sc_law_lengths.nd rfl (Or.inl rfl)) (fun _ _ _ _ _ => pts_nil) (fun _ _ _ _ _ => (pe_op op_add pe_int (pe_op op_mod (pe_callTy call_int1 (by rfl) T.int_ (by decide +kernel) (pa_cons (pe_op op_mul (pv 4) (pe_op op_add pe_int (pe_ix ix_list (pv 0) pe_int (fun _ _ => rfl)))) pa_nil)) (pe_op op_add pe_int (pe_ix ix_list (pv 0) pe_int (fun _ _ => rfl))))))))) pss_nil)
      (pss_cons (ps_set (i := 1) sc_law_lengths.nd rfl (Or.inl rfl) (pe_lst pa_nil))
      (pss_cons (ps_set (i := 2) sc_law_lengths.nd rfl (Or.inl rfl) (pe_op op_add pe_int (pe_op op_mod (pe_callTy call_int1 (by rfl) T.int_ (by decide +kernel) (pa_cons (pe_ix ix_list (pv 0) pe_int (fun _ _ => rfl)) pa_nil)) pe_int)))
      (pss_cons (ps_for PassesOwn.never rfl (pi_range2 (by rfl) T.range (pa_cons pe_int (pa_cons pe_int pa_nil))) (pg_name (i := 3) sc_law_lengths.nd rfl (Or.inl rfl))
        (pss_cons (ps_for PassesOwn.never rfl (pi_range1 (by rfl) T.range (pa_cons (pe_callB (call_min2 rfl) (by rfl) T.min (by decide +kernel) (pa_cons (pv 2) (pa_cons (pe_op op_sub (pe_ix ix_list (pv 0) pe_int (fun _ _ => rfl)) (pe_callB call_len_seq (by rfl) T.len boot_len (pa_cons (pv 1) pa_nil))) pa_nil))) pa_nil)) (pg_name (i := 4) sc_law_lengths.nd rfl (Or.inl rfl))
            (pss_one (ps_expr (pe_bm PySem.F.plainAttrs_list PySem.F.slot_list_append PySem.F.type_list_append mt_append (pv 1) (pa_cons (pv 3) pa_nil)))))
          (pss_one (ps_set (i := 2) sc_law_lengths.nd rfl (Or.inl rfl) (pe_callB (call_min2 rfl) (by rfl) T.min (by decide +kernel) (pa_cons (pe_op op_mul (pv 2) (pe_op op_add pe_int (pe_op op_mod (pe_callTy call_int1 (by rfl) T.int_ (by decide +kernel) (pa_cons (pe_ix ix_list (pv 0) pe_int (fun _ _ => rfl)) pa_nil)) pe_int))) (pa_cons pe_int pa_nil)))))))
      (pss_one (ps_ret (pv 1)))))))))), ?_⟩
    refine q_when (et_test (ev_op (ev_op (ev_var rfl) ev_c (rv_ixL (K := K) hS (dat 0 (by decide)))) ev_c rv_I0)) (fun hb H1 e1 => ?_) (fun hb H1 e1 => ?_)
    · refine s_retL (xs := nV ((List.range (ds.getD 4 0).toNat).map fun (i : Nat) => ((1 + ds.getD ((5 : Int) + (i : Int)).toNat 0 % (1 + ds.getD 0 0 * 7))).toNat)) (by
        rw [← given_nV (fun (i : Nat) => 1 + ds.getD ((5 : Int) + (i : Int)).toNat 0 % (1 + ds.getD 0 0 * 7)) (fun i => by have := Int.emod_nonneg (ds.getD ((5 : Int) + (i : Int)).toNat 0) (show 1 + ds.getD 0 0 * 7 ≠ 0 by omega); omega)]
        refine el_lcR1 (n := ds.getD 4 0) (fun _ => true) _ (ea_cons (ev_op (ev_var rfl) ev_c (rv_ixL (K := K) (ex_l e1 hS) (dat 4 (by decide)))) ea_nil) ⟨by omega, by omega⟩ (fun _ => rfl) (fun i H2 e2 hi => et_yes) (fun i H2 e2 hi _ => ?_)
        exact ev_op ev_c (ev_op (ev_int (ev_op (ev_var rfl) (ev_op ev_c (ev_var rfl) rv_I0) (rv_ixL (K := K) (ex_l (e1.trans e2) hS) (datI _ (by omega) (by omega))))) (ev_op ev_c (ev_op (ev_op (ev_var rfl) ev_c (rv_ixL (K := K) (ex_l (e1.trans e2) hS) (dat 0 (by decide)))) ev_c (rv_I (Or.inr (by decide)))) rv_I0) (rv_I (by omega))) rv_I0) fun p H2 np e2 hp => ?_
      exact q _ (by rw [List.length_map, List.length_range]; omega) p H2 (fresh_back e1 np) (e1.trans e2) hp
    refine q_when (et_test (ev_op (ev_op (ev_var rfl) ev_c (rv_ixL (K := K) (ex_l e1 hS) (dat 0 (by decide)))) ev_c (rv_eq rfl))) (fun hb H2 e2 => ?_) (fun hb H2 e2 => ?_)
    · have e12 := e1.trans e2
      refine s_retL (xs := nV ((List.range (ds.getD 1 0).toNat).map fun (i : Nat) => (1 + ds.getD 2 0).toNat)) (by
        rw [← given_nV (fun (i : Nat) => 1 + ds.getD 2 0) (fun i => by omega)]
        refine el_lcR1 (n := ds.getD 1 0) (fun _ => true) _ (ea_cons (ev_op (ev_var rfl) ev_c (rv_ixL (K := K) (ex_l e12 hS) (dat 1 (by decide)))) ea_nil) ⟨by omega, by omega⟩ (fun _ => rfl) (fun i H3 e3 hi => et_yes) (fun i H3 e3 hi _ => ?_)
        exact ev_op ev_c (ev_op (ev_var rfl) ev_c (rv_ixL (K := K) (ex_l (e12.trans e3) hS) (dat 2 (by decide)))) rv_I0) fun p H3 np e3 hp => ?_
      exact q _ (by rw [List.length_map, List.length_range]; omega) p H3 (fresh_back e12 np) (e12.trans e3) hp
    have e12 := e1.trans e2
    refine q_when (et_test (ev_op (ev_op (ev_var rfl) ev_c (rv_ixL (K := K) (ex_l e12 hS) (dat 0 (by decide)))) ev_c (rv_eq rfl))) (fun hb H3 e3 => ?_) (fun hb H3 e3 => ?_)
    · have e13 := e12.trans e3
      refine s_retL (xs := nV ((List.range (ds.getD 1 0).toNat).map fun (i : Nat) => (1 + ((i : Int) + ds.getD 2 0) % 400).toNat)) (by
        rw [← given_nV (fun (i : Nat) => 1 + ((i : Int) + ds.getD 2 0) % 400) (fun i => by omega)]
        refine el_lcR1 (n := ds.getD 1 0) (fun _ => true) _ (ea_cons (ev_op (ev_var rfl) ev_c (rv_ixL (K := K) (ex_l e13 hS) (dat 1 (by decide)))) ea_nil) ⟨by omega, by omega⟩ (fun _ => rfl) (fun i H4 e4 hi => et_yes) (fun i H4 e4 hi _ => ?_)
        exact ev_op ev_c (ev_op (ev_int (ev_op (ev_var rfl) (ev_op (ev_var rfl) ev_c (rv_ixL (K := K) (ex_l (e13.trans e4) hS) (dat 2 (by decide)))) rv_I0)) ev_c (rv_I (by decide))) rv_I0) fun p H4 np e4 hp => ?_
      exact q _ (by rw [List.length_map, List.length_range]; omega) p H4 (fresh_back e13 np) (e13.trans e4) hp
    have e13 := e12.trans e3
    refine q_when (et_test (ev_op (ev_op (ev_var rfl) ev_c (rv_ixL (K := K) (ex_l e13 hS) (dat 0 (by decide)))) ev_c (rv_eq rfl))) (fun hb H4 e4 => ?_) (fun hb H4 e4 => ?_)
    · have e14 := e13.trans e4
      refine s_retL (xs := nV ((List.range (ds.getD 1 0).toNat).map fun (i : Nat) => (1 + ((i : Int) * (1 + ds.getD 2 0)) % (1 + ds.getD 3 0)).toNat)) (by
        rw [← given_nV (fun (i : Nat) => 1 + ((i : Int) * (1 + ds.getD 2 0)) % (1 + ds.getD 3 0)) (fun i => by have := Int.emod_nonneg ((i : Int) * (1 + ds.getD 2 0)) (show 1 + ds.getD 3 0 ≠ 0 by omega); omega)]
        refine el_lcR1 (n := ds.getD 1 0) (fun _ => true) _ (ea_cons (ev_op (ev_var rfl) ev_c (rv_ixL (K := K) (ex_l e14 hS) (dat 1 (by decide)))) ea_nil) ⟨by omega, by omega⟩ (fun _ => rfl) (fun i H5 e5 hi => et_yes) (fun i H5 e5 hi _ => ?_)
        exact ev_op ev_c (ev_op (ev_int (ev_op (ev_var rfl) (ev_op ev_c (ev_op (ev_var rfl) ev_c (rv_ixL (K := K) (ex_l (e14.trans e5) hS) (dat 2 (by decide)))) rv_I0) (rv_I (Or.inr (by omega))))) (ev_op ev_c (ev_op (ev_var rfl) ev_c (rv_ixL (K := K) (ex_l (e14.trans e5) hS) (dat 3 (by decide)))) rv_I0) (rv_I (by omega))) rv_I0) fun p H5 np e5 hp => ?_
      exact q _ (by rw [List.length_map, List.length_range]; omega) p H5 (fresh_back e14 np) (e14.trans e5) hp
    have e14 := e13.trans e4
    refine q_asgL (el_lst ea_nil (by decide)) fun fp H5 nfp e5 hfp => ?_
    have nfp0 : H fp = none := fresh_back e14 nfp
    have m0 := Int.emod_nonneg (ds.getD 2 0) (show (6 : Int) ≠ 0 by decide)
    have m1 := Int.emod_lt_of_pos (ds.getD 2 0) (show (0 : Int) < 6 by decide)
    refine q_asg (ev_op ev_c (ev_op (ev_int (ev_op (ev_var rfl) ev_c (rv_ixL (K := K) (ex_l (e14.trans e5) hS) (dat 2 (by decide))))) ev_c (rv_I (by decide))) rv_I0) fun H6 e6 => ?_
    have e16 := (e14.trans e5).trans e6
    refine q_forR2 (ea_cons ev_c (ea_cons ev_c ea_nil)) ⟨by decide, by decide, by decide, by decide⟩
      (fun i σ' H' => ∃ (l : List Nat) (he : Int) (x3 x4 : Option V), σ' = [some (.ref rp), some (.ref fp), some (.int he), x3, x4] ∧ Ex H H' ∧ H' fp = some (.lst (nV l)) ∧ (l.length : Int) ≤ ds.getD 1 0 ∧ 0 ≤ he ∧ he ≤ 1000)
      (fun H7 e7 => ⟨[], _, none, none, rfl, e16.trans e7, e7 _ _ (e6 _ _ hfp), b0, by omega, by omega⟩) ?_ ?_
    · rintro i σ' H' hi ⟨l, he, x3, x4, rfl, e, hl, hll, h0, h1000⟩
      have hlen : ((nV l).length : Int) = (l.length : Int) := by rw [nV_len]
      have hmin : ∀ z : Int, (if z < he then z else he) ≤ z ∧ (if z < he then z else he) ≤ he ∧ (0 ≤ z → 0 ≤ (if z < he then z else he)) := fun z => by split <;> omega
      obtain ⟨q1, q2, q3⟩ := hmin (ds.getD 1 0 - ((nV l).length : Int))
      have eln : ∀ x : Int, (1 : Int) + x = ((1 + x : Int)) := fun _ => rfl
      obtain ⟨le, hle⟩ : ∃ le : Nat, (1 : Int) + (i : Int) = (le : Int) := ⟨1 + i, by omega⟩
      rw [hle]
      refine q_forR1 (ea_cons (ev_min2 (ev_var rfl) (ev_op (ev_op (ev_var rfl) ev_c (rv_ixL (K := K) (ex_l e hS) (dat 1 (by decide)))) (ev_len (K := K) (ev_var rfl) (sq_of hl)) rv_I0)) ea_nil) ⟨q3 (by omega), by omega⟩
        (fun k σ' H' => ∃ (l2 : List Nat) (x4 : Option V), σ' = [some (.ref rp), some (.ref fp), some (.int he), some (.int (le : Int)), x4] ∧ Ex H H' ∧ H' fp = some (.lst (nV l2)) ∧ l2.length = l.length + k)
        (fun H7 e7 => ⟨l, x4, rfl, e.trans e7, e7 _ _ hl, rfl⟩) ?_ ?_
      · rintro k σ' H7 hk ⟨l2, y4, rfl, e7, hl2, hll2⟩
        refine s_app hl2 (ev_var rfl) (ev_var rfl) (by rw [nV_len]; omega) fun H8 e8 => ⟨l2 ++ [le], _, rfl, Ex.mut (e7.trans e8) nfp0, by rw [← nV_app]; exact upd_same, by rw [List.length_append]; simp; omega⟩
      · rintro σ' H7 ⟨l2, y4, rfl, e7, hl2, hll2⟩
        have hmm : ∀ z : Int, 0 ≤ z → 0 ≤ (if (1000 : Int) < z then (1000 : Int) else z) ∧ (if (1000 : Int) < z then (1000 : Int) else z) ≤ 1000 := fun z hz => by split <;> omega
        have hpos : 0 ≤ he * (1 + ds.getD 2 0 % 6) := Int.mul_nonneg h0 (by omega)
        refine s_asg (ev_min2 (ev_op (ev_var rfl) (ev_op ev_c (ev_op (ev_int (ev_op (ev_var rfl) ev_c (rv_ixL (K := K) (ex_l e7 hS) (dat 2 (by decide))))) ev_c (rv_I (by decide))) rv_I0) (rv_I (Or.inl (by omega)))) ev_c) fun H8 e8 => ⟨l2, _, _, _, rfl, e7.trans e8, e8 _ _ hl2, by omega, (hmm _ hpos).1, (hmm _ hpos).2⟩
    · rintro σ' H' ⟨l, he, x3, x4, rfl, e, hl, hll, h0, h1000⟩
      exact s_ret (ev_var rfl) fun H7 e7 => q l (by omega) fp H7 nfp0 (e.trans e7) (e7 _ _ hl)
end
end My

set_option Elab.async false
set_option linter.all false
set_option maxRecDepth 100000
set_option maxHeartbeats 4000000
namespace My
open PySem PySem.Spec PyProof.Rows L2 Evl
section
variable {K : PySem.W.Frag} {σ : L2.St} {H : Hp} {ta tb tc te : TE} {x y z v : V} {D : Ends} {tu tz : TS}
theorem el_call2L {xs ys : List V} {sp : Sp} {E : XK} (ha : Ev ta σ H x) (hb : EvL tb σ H xs) (hs : ∀ p H1, H1 p = some (.lst xs) → Ex H H1 → SpL sp [x, .ref p] H1 ys) : EvL (tCall sp [] E (tCons ta (tCons tb tNil))) σ H ys := fun H0 e0 Q q =>
  ha H0 e0 _ fun H1 e1 => hb H1 (e0.trans e1) _ fun p H2 hp e2 h2 => hs p H2 h2 ((e0.trans e1).trans e2) H2 (Ex.refl H2) Q (fun r H3 hr e3 h3 => q r H3 (fresh_back (e1.trans e2) hr) ((e1.trans e2).trans e3) h3) E
theorem q_call3L {i : Nat} {ys : List V} {sp : Sp} {E : XK} (ha : Ev ta σ H x) (hb : Ev tb σ H y) (hc : EvL tc σ H ys)
    (hs : ∀ r H1, Ex H H1 → H1 r = some (.lst ys) → sp [x, y, .ref r] H1 (fun x H2 => tz D (σ.set i (some x)) H2) E) : tSeq (tAsg (tCall sp [] E (tCons ta (tCons tb (tCons tc tNil)))) (gName i)) tz D σ H :=
  ha H (Ex.refl H) _ fun H1 e1 => hb H1 e1 _ fun H2 e2 => hc H2 (e1.trans e2) _ fun r H3 hr e3 h3 => hs r H3 ((e1.trans e2).trans e3) h3
theorem q_call1L {i : Nat} {ys : List V} {sp : Sp} {E : XK} (hc : EvL tc σ H ys)
    (hs : ∀ r H1, Ex H H1 → H1 r = some (.lst ys) → sp [.ref r] H1 (fun x H2 => tz D (σ.set i (some x)) H2) E) : tSeq (tAsg (tCall sp [] E (tCons tc tNil)) (gName i)) tz D σ H :=
  hc H (Ex.refl H) _ fun r H3 hr e3 h3 => hs r H3 e3 h3
theorem ev_callU1 {xs : List V} {sp : Sp} {E : XK} (ha : EvU ta σ H xs) (hb : Ev tb σ H y) (hs : ∀ p H1, H1 p = some (.tup xs) → Ex H H1 → SpV sp [.ref p, y] H1 z) : Ev (tCall sp [] E (tCons ta (tCons tb tNil))) σ H z := fun H0 e0 Q q =>
  ha H0 e0 _ fun p H1 hp e1 h1 => hb H1 (e0.trans e1) _ fun H2 e2 => hs p H2 (e2 p _ h1) ((e0.trans e1).trans e2) H2 (Ex.refl H2) Q (fun H3 e3 => q H3 ((e1.trans e2).trans e3)) E
theorem ev_callUU {xs ys : List V} {sp : Sp} {E : XK} (ha : EvU ta σ H xs) (hb : EvU tb σ H ys) (hs : ∀ p r H1, H1 p = some (.tup xs) → H1 r = some (.tup ys) → Ex H H1 → SpV sp [.ref p, .ref r] H1 z) : Ev (tCall sp [] E (tCons ta (tCons tb tNil))) σ H z := fun H0 e0 Q q =>
  ha H0 e0 _ fun p H1 hp e1 h1 => hb H1 (e0.trans e1) _ fun r H2 hr e2 h2 => hs p r H2 (e2 p _ h1) h2 ((e0.trans e1).trans e2) H2 (Ex.refl H2) Q (fun H3 e3 => q H3 ((e1.trans e2).trans e3)) E
theorem eu_callVL {xs ys : List V} {sp : Sp} {E : XK} (ha : Ev ta σ H x) (hb : EvL tb σ H xs) (hs : ∀ p H1, H1 p = some (.lst xs) → Ex H H1 → SpU sp [x, .ref p] H1 ys) : EvU (tCall sp [] E (tCons ta (tCons tb tNil))) σ H ys := fun H0 e0 Q q =>
  ha H0 e0 _ fun H1 e1 => hb H1 (e0.trans e1) _ fun p H2 hp e2 h2 => hs p H2 h2 ((e0.trans e1).trans e2) H2 (Ex.refl H2) Q (fun r H3 hr e3 h3 => q r H3 (fresh_back (e1.trans e2) hr) ((e1.trans e2).trans e3) h3) E
theorem eu_callVU {xs ys : List V} {sp : Sp} {E : XK} (ha : Ev ta σ H x) (hb : EvU tb σ H xs) (hs : ∀ p H1, H1 p = some (.tup xs) → Ex H H1 → SpU sp [x, .ref p] H1 ys) : EvU (tCall sp [] E (tCons ta (tCons tb tNil))) σ H ys := fun H0 e0 Q q =>
  ha H0 e0 _ fun H1 e1 => hb H1 (e0.trans e1) _ fun p H2 hp e2 h2 => hs p H2 h2 ((e0.trans e1).trans e2) H2 (Ex.refl H2) Q (fun r H3 hr e3 h3 => q r H3 (fresh_back (e1.trans e2) hr) ((e1.trans e2).trans e3) h3) E
theorem ev_maxR {p : Addr} {ns : List Int} {v : Int} (h : Ev te σ H (.ref p)) (hS : SqL K H p (ns.map V.int)) (hne : 0 < ns.length) (hv : ∀ m, m ∈ ns → (∀ y, y ∈ ns → y ≤ m) → m = v) : Ev (tCB (rMax K) (tCons te tNil)) σ H (.int v) := fun H1 e Q q => h H1 e _ fun H2 e2 =>
  ⟨p, ns, rfl, ex_l (e.trans e2) hS, hne, fun m h1 h3 => by rw [hv m h1 h3]; exact q H2 e2⟩
theorem ev_minR {p : Addr} {ns : List Int} {v : Int} (h : Ev te σ H (.ref p)) (hS : SqL K H p (ns.map V.int)) (hne : 0 < ns.length) (hv : ∀ m, m ∈ ns → (∀ y, y ∈ ns → m ≤ y) → m = v) : Ev (tCB (rMin K) (tCons te tNil)) σ H (.int v) := fun H1 e Q q => h H1 e _ fun H2 e2 =>
  ⟨p, ns, rfl, ex_l (e.trans e2) hS, hne, fun m h1 h3 => by rw [hv m h1 h3]; exact q H2 e2⟩
theorem ev_neInts {p r : Addr} {l : List Int} (h1 : Ev ta σ H (.ref p)) (h2 : Ev tb σ H (.ref r)) (s1 : SqL K H p (l.map V.int)) (s2 : SqL K H r (l.map V.int)) : Ev (tOp (rNeD K) ta tb) σ H (.bl false) := fun H0 e0 Q q' =>
  h1 H0 e0 _ fun H1 e1 => h2 H1 (e0.trans e1) _ fun H2 e2 => ⟨intsD l, intsD l, dp_ints (ex_l ((e0.trans e1).trans e2) s1), dp_ints (ex_l ((e0.trans e1).trans e2) s2), shaped_ints l, shaped_ints l, by
    rw [SeqAt.eqv_refl (intsD l) (can_ints l)]
    exact q' H2 (e1.trans e2)⟩
theorem q_reverse {p : Addr} {xs : List V} (h : Ev te σ H (.ref p)) (hp : H p = some (.lst xs)) (k : ∀ H1, Ex H H1 → tz D σ (upd H1 p (.lst xs.reverse))) : tSeq (tDrop (tBM0 K "list" rReverse te)) tz D σ H :=
  h H (Ex.refl H) _ fun H1 e1 => ⟨.inl ⟨rfl, _, sq_of (e1 _ _ hp)⟩, p, xs, rfl, rfl, e1 _ _ hp, k H1 e1⟩
theorem sll_splits {m a : Nat} {t : TA} (h : EvA t σ H [.int (m : Int), .int (a : Int)]) (h1 : 1 ≤ m) (h2 : m ≤ 4) (h3 : a ≤ 8) : EvLL (tCall spSplits [] E0 t) σ H (splits m a) := fun H0 e0 Q q =>
  h H0 e0 _ fun H1 e1 => ⟨m, a, rfl, h1, h2, h3, fun p as H2 np e2 hp L => q p as H2 (fresh_back e1 np) (e1.trans e2) hp L⟩
end
theorem top_ex : ∀ {l : List Nat}, l ≠ [] → ∃ mx ∈ l, ∀ x ∈ l, x ≤ mx
  | [], h => absurd rfl h
  | [x], _ => ⟨x, by simp, by simp⟩
  | x :: y :: l, _ => by
    obtain ⟨m, hm, h⟩ := top_ex (l := y :: l) (by simp)
    by_cases hx : m ≤ x
    · exact ⟨x, by simp, fun z hz => by
        rcases List.mem_cons.mp hz with rfl | hz
        · exact Nat.le_refl _
        · exact Nat.le_trans (h z hz) hx⟩
    · exact ⟨m, List.mem_cons_of_mem _ hm, fun z hz => by
        rcases List.mem_cons.mp hz with rfl | hz
        · omega
        · exact h z hz⟩
theorem low_ex : ∀ {l : List Nat}, l ≠ [] → ∃ mn ∈ l, ∀ x ∈ l, mn ≤ x
  | [], h => absurd rfl h
  | [x], _ => ⟨x, by simp, by simp⟩
  | x :: y :: l, _ => by
    obtain ⟨m, hm, h⟩ := low_ex (l := y :: l) (by simp)
    by_cases hx : x ≤ m
    · exact ⟨x, by simp, fun z hz => by
        rcases List.mem_cons.mp hz with rfl | hz
        · exact Nat.le_refl _
        · exact Nat.le_trans hx (h z hz)⟩
    · exact ⟨m, List.mem_cons_of_mem _ hm, fun z hz => by
        rcases List.mem_cons.mp hz with rfl | hz
        · omega
        · exact h z hz⟩
theorem mem_nI {l : List Nat} {m : Int} (h : m ∈ nI l) : ∃ n ∈ l, m = (n : Int) := by
  obtain ⟨n, hn, rfl⟩ := List.mem_map.mp h
  exact ⟨n, hn, rfl⟩
theorem nI_mem {l : List Nat} {n : Nat} (h : n ∈ l) : ((n : Nat) : Int) ∈ nI l := List.mem_map.mpr ⟨n, h, rfl⟩
theorem nI_len (l : List Nat) : (nI l).length = l.length := List.length_map _
section
variable {P : Program} {w : World} {K : PySem.W.Frag} {mg : Str → Option Value} {base : Heap}
abbrev s_law : Stmt := top 17
abbrev N_law : List Str := ["script", "pick", "many", "amount", "answer", "split", "other", "least", "products", "row", "handed", "due", "few", "again", "parts"]
theorem sc_law : FnScope N_law ["script"] (defScope s_law) := ⟨rfl, rfl, rfl, by decide +kernel, rfl, by decide +kernel, by decide +kernel⟩
def spLaw (K : PySem.W.Frag) : Sp := fun vs H Q _ => ∃ (a : Addr) (ns : List Int), vs = [.ref a] ∧ SqL K H a (ns.map V.int) ∧ ∀ H', Q (.bl true) H'
set_option maxHeartbeats 40000000 in
theorem ok_law (D_law_cell : Dn P w K mg base 1 "_law_cell" s_law_cell ["script", "k"] (spCellF K)) (D_law_digits : Dn P w K mg base 1 "_law_digits" s_law_digits ["cell", "sizes"] (spDigits K))
    (D_law_whole : Dn P w K mg base 1 "_law_whole" s_law_whole ["value"] spWhole) (D_law_even : Dn P w K mg base 1 "_law_even" s_law_even ["many", "amount"] spEven) (D_law_powers : Dn P w K mg base 2 "_law_powers" s_law_powers ["parts"] (spPrs K))
    (D_power_product : Dn P w K mg base 2 "power_product" s_power_product ["standings", "count"] spPP) (D_law_split : Dn P w K mg base 2 "_law_split" s_law_split ["many", "amount", "row"] (spSplit K))
    (D_law_splits : Dn P w K mg base 1 "_law_splits" s_law_splits ["many", "amount"] spSplits) (D_law_lengths : Dn P w K mg base 1 "_law_lengths" s_law_lengths ["row"] (spLens K)) (D_law_most : Dn P w K mg base 3 "_law_most" s_law_most ["many", "row"] (spLM K))
    (D_law_same : Dn P w K mg base 3 "_law_same" s_law_same ["value", "due"] spSame) (D_most_chance : Dn P w K mg base 3 "most_chance" s_most_chance ["standings", "lengths"] (spMC K))
    (D_most_chance_standings_lengths : Kd P w K mg base 3 "most_chance" 0 ["standings", "lengths"] (fun _ zs => zs) (spMC K)) (D_power_product_standings_count : Kd P w K mg base 2 "power_product" 0 ["standings", "count"] (fun _ zs => zs) spPP)
    (T : TT mg) (F : At K mg "law" s_law) : Dn P w K mg base 4 "law" s_law ["script"] (spLaw K) := by
  refine dn_ok F sc_law (fun _ _ _ _ _ _ us hl => match us, hl with | [_], _ => rfl) (fun vs H Q E h => ?_) (fun f cdv A outer t H vs Q E hr h => ?_)
  · obtain ⟨a, ns, rfl, _⟩ := h; rfl
  · obtain ⟨ad, ns, rfl, hS, q⟩ := h
    refine ⟨_, (pss_cons (ps_set (i := 1) sc_law.nd rfl (Or.inl rfl) (pe_dn D_law_digits hr (by decide) rfl (pa_cons (pe_dn D_law_cell hr (by decide) rfl (pa_cons (pv 0) (pa_cons pe_int pa_nil))) (pa_cons (pe_lst (pa_cons pe_int (pa_cons pe_int (pa_cons pe_int (pa_cons pe_int (pa_cons pe_int (pa_cons pe_int pa_nil))))))) pa_nil))))
      (pss_cons (ps_set (i := 2) sc_law.nd rfl (Or.inl rfl) (pe_callB (call_min2 rfl) (by rfl) T.min (by decide +kernel) (pa_cons pe_int (pa_cons (pe_op op_add pe_int (pe_op op_fdiv (pe_op op_mul (pe_ix ix_list (pv 1) pe_int (fun _ _ => rfl)) pe_int) pe_int)) pa_nil))))
      (pss_cons (ps_if (pt_cmpR op_eq (pe_ix ix_list (pv 1) pe_int (fun _ _ => rfl)) pe_int (nomark _)) (pss_one (ps_set (i := 2) sc_law.nd rfl (Or.inl rfl) (pe_op op_add pe_int (pe_op op_mod (pe_callTy call_int1 (by rfl) T.int_ (by decide +kernel) (pa_cons (pe_ix ix_list (pv 1) pe_int (fun _ _ => rfl)) pa_nil)) pe_int)))) pss_nil)
      (pss_cons (ps_set (i := 3) sc_law.nd rfl (Or.inl rfl) (pe_callB (call_min2 rfl) (by rfl) T.min (by decide +kernel) (pa_cons pe_int (pa_cons (pe_op op_fdiv (pe_op op_mul (pe_ix ix_list (pv 1) pe_int (fun _ _ => rfl)) pe_int) pe_int) pa_nil))))
      (pss_cons (ps_if (pt_cmpR op_eq (pe_ix ix_list (pv 1) pe_int (fun _ _ => rfl)) pe_int (nomark _)) (pss_one (ps_set (i := 3) sc_law.nd rfl (Or.inl rfl) (pe_op op_mod (pe_callTy call_int1 (by rfl) T.int_ (by decide +kernel) (pa_cons (pe_ix ix_list (pv 1) pe_int (fun _ _ => rfl)) pa_nil)) pe_int))) pss_nil)
      (pss_cons (ps_set (i := 4) sc_law.nd rfl (Or.inl rfl) (pe_dn D_power_product hr (by decide) rfl (pa_cons (pv 2) (pa_cons (pv 3) pa_nil))))
      (pss_cons (ps_if (PW.pt (pw_or (pt_not (pt_val (pe_dn D_law_whole hr (by decide) rfl (pa_cons (pv 4) pa_nil)))) (pw_or1 (pt_cmpR op_ne (pv 4) (pe_dn D_law_powers hr (by decide) rfl (pa_cons (pe_dn D_law_even hr (by decide) rfl (pa_cons (pv 2) (pa_cons (pv 3) pa_nil))) pa_nil)) (nomark _))))) (pss_one (ps_ret pe_bl)) pss_nil)
      (pss_cons (ps_set (i := 5) sc_law.nd rfl (Or.inl rfl) (pe_dn D_law_split hr (by decide) rfl (pa_cons (pv 2) (pa_cons (pv 3) (pa_cons (pe_dn D_law_digits hr (by decide) rfl (pa_cons (pe_dn D_law_cell hr (by decide) rfl (pa_cons (pv 0) (pa_cons pe_int pa_nil))) (pa_cons (pe_op op_cat (pe_lst (pa_cons pe_int (pa_cons pe_int (pa_cons pe_int (pa_cons pe_int pa_nil))))) (pe_op op_rep (pe_lst (pa_cons pe_int pa_nil)) pe_int)) pa_nil))) pa_nil)))))
      (pss_cons (ps_set (i := 6) sc_law.nd rfl (Or.inl rfl) (pe_dn D_law_powers hr (by decide) rfl (pa_cons (pv 5) pa_nil)))
      (pss_cons (ps_if (PW.pt (pw_or (pt_cmpR op_gt (pv 4) (pv 6) (nomark _)) (pw_or1 (pt_cmpR op_ne (pe_cmpR op_eq (pv 4) (pv 6) (nomark _)) (pe_cmpR op_le (pe_op op_sub (pe_callB (cr_max rfl) (by rfl) T.max (by decide +kernel) (pa_cons (pv 5) pa_nil)) (pe_callB (cr_min rfl) (by rfl) T.min (by decide +kernel) (pa_cons (pv 5) pa_nil))) pe_int (nomark _)) (nomark _))))) (pss_one (ps_ret pe_bl)) pss_nil)
      (pss_cons (ps_set (i := 7) sc_law.nd rfl (Or.inl rfl) (pe_dn D_power_product hr (by decide) rfl (pa_cons (pe_op op_add pe_int (pe_ix ix_list (pv 1) pe_int (fun _ _ => rfl))) (pa_cons (pe_ix ix_list (pv 1) pe_int (fun _ _ => rfl)) pa_nil))))
      (pss_cons (ps_if (pt_not (pt_val (pe_dn D_law_whole hr (by decide) rfl (pa_cons (pv 7) pa_nil)))) (pss_one (ps_ret pe_bl)) pss_nil)
      (pss_cons (ps_setLc (i := 8) (te := tCall (spPrs K) [] E0 (tCons (tVar 14) tNil)) (own := [("parts", 14)]) (g := gName 14) (tt := tYes) rfl sc_law.nd rfl rfl (sw_true rfl rfl rfl (by decide +kernel)) (pi_list (pe_dn D_law_splits hr (by decide) rfl (pa_cons (pe_op op_add pe_int (pe_ix ix_list (pv 1) pe_int (fun _ _ => rfl))) (pa_cons (pe_ix ix_list (pv 1) pe_int (fun _ _ => rfl)) pa_nil)))) (blkOk_by (own := [("parts", 14)]) (N := N_law) (sc := defScope s_law) (by decide +kernel)) (fun _ _ _ _ _ => pg_name (i := 14) sc_law.nd rfl (Or.inl rfl)) (fun _ _ _ _ _ => pts_nil) (fun _ _ _ _ _ => (pe_dn D_law_powers hr (by decide) rfl (pa_cons (pv 14) pa_nil))))
      (pss_cons (ps_if (pt_cmpR op_ne (pv 7) (pe_callB (cr_min rfl) (by rfl) T.min (by decide +kernel) (pa_cons (pv 8) pa_nil)) (nomark _)) (pss_one (ps_ret pe_bl)) pss_nil)
      (pss_cons (ps_set (i := 9) sc_law.nd rfl (Or.inl rfl) (pe_dn D_law_lengths hr (by decide) rfl (pa_cons (pe_dn D_law_digits hr (by decide) rfl (pa_cons (pe_dn D_law_cell hr (by decide) rfl (pa_cons (pv 0) (pa_cons pe_int pa_nil))) (pa_cons (pe_op op_cat (pe_lst (pa_cons pe_int (pa_cons pe_int (pa_cons pe_int (pa_cons pe_int (pa_cons pe_int pa_nil)))))) (pe_op op_rep (pe_lst (pa_cons pe_int pa_nil)) pe_int)) pa_nil))) pa_nil)))
      (pss_cons (ps_set (i := 10) sc_law.nd rfl (Or.inl rfl) (pe_callTy call_list_of (by rfl) T.list_ (by decide +kernel) (pa_cons (pv 9) pa_nil)))
      (pss_cons (ps_set (i := 11) sc_law.nd rfl (Or.inl rfl) (pe_tup (pa_cons pe_int (pa_cons (pe_dn D_law_most hr (by decide) rfl (pa_cons (pv 2) (pa_cons (pv 9) pa_nil))) pa_nil))))
      (pss_cons (ps_if (PW.pt (pw_or (pt_not (pt_val (pe_dn D_law_same hr (by decide) rfl (pa_cons (pe_dn D_most_chance hr (by decide) rfl (pa_cons (pv 2) (pa_cons (pv 10) pa_nil))) (pa_cons (pv 11) pa_nil))))) (pw_or1 (pt_cmpR (op_neD (un64k hr)) (pv 10) (pv 9) (nomark _))))) (pss_one (ps_ret pe_bl)) pss_nil)
      (pss_cons (ps_expr (pe_bm0 PySem.F.plainAttrs_list PySem.F.slot_list_reverse PySem.F.type_list_reverse mt_reverse (pv 10)))
      (pss_cons (ps_if (pt_not (pt_val (pe_dn D_law_same hr (by decide) rfl (pa_cons (pe_kd D_most_chance_standings_lengths hr (by decide) rfl (pk_cons (pv 2) (pk_cons (pv 10) pk_nil))) (pa_cons (pv 11) pa_nil))))) (pss_one (ps_ret pe_bl)) pss_nil)
      (pss_cons (ps_set (i := 12) sc_law.nd rfl (Or.inl rfl) (pe_slice sl_list (pv 9) po_none (po_some (pe_op op_mod (pe_callTy call_int1 (by rfl) T.int_ (by decide +kernel) (pa_cons (pe_ix ix_list (pv 1) pe_int (fun _ _ => rfl)) pa_nil)) (pe_op op_add (pe_callB call_len_seq (by rfl) T.len boot_len (pa_cons (pv 9) pa_nil)) pe_int)))))
      (pss_cons (ps_if (pt_not (pt_val (pe_dn D_law_same hr (by decide) rfl (pa_cons (pe_dn D_most_chance hr (by decide) rfl (pa_cons (pe_op op_add pe_int (pe_ix ix_list (pv 1) pe_int (fun _ _ => rfl))) (pa_cons (pe_callTy call_tuple_of (by rfl) T.tuple_ (by decide +kernel) (pa_cons (pv 12) pa_nil)) pa_nil))) (pa_cons (pe_tup (pa_cons pe_int (pa_cons (pe_dn D_law_most hr (by decide) rfl (pa_cons (pe_op op_add pe_int (pe_ix ix_list (pv 1) pe_int (fun _ _ => rfl))) (pa_cons (pv 12) pa_nil))) pa_nil))) pa_nil))))) (pss_one (ps_ret pe_bl)) pss_nil)
      (pss_cons (ps_if (pt_not (pt_val (pe_dn D_law_same hr (by decide) rfl (pa_cons (pe_dn D_most_chance hr (by decide) rfl (pa_cons (pv 2) (pa_cons (pe_lst pa_nil) pa_nil))) (pa_cons (pe_tup (pa_cons pe_int (pa_cons pe_int pa_nil))) pa_nil))))) (pss_one (ps_ret pe_bl)) pss_nil)
      (pss_cons (ps_set (i := 13) sc_law.nd rfl (Or.inl rfl) (pe_kd D_power_product_standings_count hr (by decide) rfl (pk_cons (pv 2) (pk_cons (pv 3) pk_nil))))
      (pss_one (ps_ret (pe_and (pe_dn D_law_whole hr (by decide) rfl (pa_cons (pv 13) pa_nil)) (pe_and (pe_cmpR op_eq (pv 13) (pv 4) (nomark _)) (pe_one (pe_dn D_law_same hr (by decide) rfl (pa_cons (pe_dn D_most_chance hr (by decide) rfl (pa_cons (pv 2) (pa_cons (pe_callTy call_tuple_of (by rfl) T.tuple_ (by decide +kernel) (pa_cons (pv 9) pa_nil)) pa_nil))) (pa_cons (pv 11) pa_nil)))))))))))))))))))))))))))))))), ?_⟩
    refine q_call2L (xs := SC66.map V.int) (ev_call (ea_cons (ev_var rfl) (ea_cons ev_c ea_nil)) (sv_cell hS (by decide) (by decide))) (el_lst (ea_cons ev_c (ea_cons ev_c (ea_cons ev_c (ea_cons ev_c (ea_cons ev_c (ea_cons ev_c ea_nil)))))) (by show 6 ≤ 100000; decide)) (fun p H1 hp e => sl_digits (sq_of hp) okSC66) fun pk H1 npk e1 h1 => ?_
    have hW1 := digits_in (cellF ns 0) SC66 (pos_of okSC66)
    generalize digitsF (cellF ns 0) SC66 = D1 at h1 hW1
    have hdl : D1.length = 6 := hW1.len
    have dat : ∀ i : Nat, i < 6 → atI (D1.map V.int) (i : Int) = some (.int (D1.getD i 0)) := fun i hi => at_d (by omega)
    obtain ⟨b0, b1⟩ := hW1.get 1 (by decide)
    obtain ⟨g0, g1⟩ := hW1.get 3 (by decide)
    obtain ⟨j0, j1⟩ := hW1.get 4 (by decide)
    obtain ⟨l0, l1⟩ := hW1.get 5 (by decide)
    have b1' : D1.getD 1 0 < 60 := b1
    have g1' : D1.getD 3 0 < 401 := g1
    have j1' : D1.getD 4 0 < 4 := j1
    have l1' : D1.getD 5 0 < 9 := l1
    clear b1 g1 j1 l1
    have pkg : ∀ {H' : Hp} {σ' : L2.St} (i : Nat), Ex H1 H' → i < 6 → σ'[1]? = some (some (.ref pk)) → Ev (tOp (rIxL K) (tVar 1) (tC (.int (i : Int)))) σ' H' (.int (D1.getD i 0)) := fun i e hi hσ => ev_op (ev_var hσ) ev_c (rv_ixL (K := K) (sq_of (e _ _ h1)) (dat i hi))
    refine q_asg (v := .int (if 1 + D1.getD 1 0 * 9 / 8 < 60 then 1 + D1.getD 1 0 * 9 / 8 else 60)) (ev_min2 ev_c (ev_op ev_c (ev_op (ev_op (pkg 1 (Ex.refl _) (by decide) rfl) ev_c (rv_I (Or.inr (by decide)))) ev_c (rv_I ⟨by decide, by decide⟩)) rv_I0)) fun H2 e2 => ?_
    obtain ⟨m, hm, hm1, hm60⟩ : ∃ m : Nat, (m : Int) = (if D1.getD 0 0 = 0 then 1 + D1.getD 1 0 % 4 else (if 1 + D1.getD 1 0 * 9 / 8 < 60 then 1 + D1.getD 1 0 * 9 / 8 else 60)) ∧ 1 ≤ m ∧ m ≤ 60 :=
      ⟨(if D1.getD 0 0 = 0 then 1 + D1.getD 1 0 % 4 else (if 1 + D1.getD 1 0 * 9 / 8 < 60 then 1 + D1.getD 1 0 * 9 / 8 else 60)).toNat, by split <;> (try split) <;> omega, by split <;> (try split) <;> omega, by split <;> (try split) <;> omega⟩
    refine q_ifSet (v := .int (m : Int)) (et_test (ev_op (pkg 0 e2 (by decide) rfl) ev_c (rv_eq rfl))) (fun hb H3 e3 => ?_) (fun hb => ?_) fun H3 e3 => ?_
    · rw [if_pos (V.int.inj (of_decide_eq_true hb))] at hm
      rw [hm]
      exact ev_op ev_c (ev_op (ev_int (pkg 1 (e2.trans e3) (by decide) rfl)) ev_c (rv_I (by decide))) rv_I0
    · rw [if_neg (fun z => of_decide_eq_false hb (congrArg V.int z))] at hm
      rw [hm]
      rfl
    have e13 : Ex H1 H3 := e2.trans e3
    refine q_asg (v := .int (if D1.getD 3 0 * 9 / 8 < 400 then D1.getD 3 0 * 9 / 8 else 400)) (ev_min2 ev_c (ev_op (ev_op (pkg 3 e13 (by decide) rfl) ev_c (rv_I (Or.inr (by decide)))) ev_c (rv_I ⟨by decide, by decide⟩))) fun H4 e4 => ?_
    obtain ⟨a, ha, ha400⟩ : ∃ a : Nat, (a : Int) = (if D1.getD 2 0 = 0 then D1.getD 3 0 % 13 else (if D1.getD 3 0 * 9 / 8 < 400 then D1.getD 3 0 * 9 / 8 else 400)) ∧ a ≤ 400 :=
      ⟨(if D1.getD 2 0 = 0 then D1.getD 3 0 % 13 else (if D1.getD 3 0 * 9 / 8 < 400 then D1.getD 3 0 * 9 / 8 else 400)).toNat, by split <;> (try split) <;> omega, by split <;> (try split) <;> omega⟩
    have e14 : Ex H1 H4 := e13.trans e4
    refine q_ifSet (v := .int (a : Int)) (et_test (ev_op (pkg 2 e14 (by decide) rfl) ev_c (rv_eq rfl))) (fun hb H5 e5 => ?_) (fun hb => ?_) fun H5 e5 => ?_
    · rw [if_pos (V.int.inj (of_decide_eq_true hb))] at ha
      rw [ha]
      exact ev_op (ev_int (pkg 3 (e14.trans e5) (by decide) rfl)) ev_c (rv_I (by decide))
    · rw [if_neg (fun z => of_decide_eq_false hb (congrArg V.int z))] at ha
      rw [ha]
      rfl
    have e15 : Ex H1 H5 := e14.trans e5
    clear hm ha
    have hes := even_sum (amount := a) (show 0 < m from hm1)
    have hepp := even_pp (amount := a) (show 0 < m from hm1)
    refine q_asg (ev_call (ea_cons (ev_var rfl) (ea_cons (ev_var rfl) ea_nil)) (sv_pp hm1 (by omega) (by omega))) fun H6 e6 => ?_
    refine q_when (b := false) (et_is (et_or (et_not (et_B (ev_call (ea_cons (ev_var rfl) ea_nil) sv_whole))) fun _ => et_test (ev_op (ev_var rfl) (ev_callLL (K := K) (el_call (ea_cons (ev_var rfl) (ea_cons (ev_var rfl) ea_nil)) (sl_even hm1 (by omega))) (fun r H4 hr4 e4 => sv_prs (K := K) (sq_of hr4) (by omega))) (rv_ne rfl))) (by rw [hepp, decide_eq_true rfl]; rfl)) (fun hb => absurd hb (by decide)) fun _ H7 e7 => ?_
    have e17 : Ex H1 H7 := (e15.trans e6).trans e7
    refine q_call3L (ys := (digitsF (cellF ns 1) SA66).map V.int) (ev_var rfl) (ev_var rfl) (el_call2L (xs := SA66.map V.int) (ev_call (ea_cons (ev_var rfl) (ea_cons ev_c ea_nil)) (sv_cell (ex_l (e1.trans e17) hS) (by decide) (by decide))) (el_cat (el_lst (ea_cons ev_c (ea_cons ev_c (ea_cons ev_c (ea_cons ev_c ea_nil)))) (by show 4 ≤ 100000; decide)) (el_rep (el_lst (ea_cons ev_c ea_nil) (by show 1 ≤ 100000; decide)) (fun _ _ => ev_c) (by decide) (by decide) (by decide)) (by decide)) (fun p H1 hp e => sl_digits (sq_of hp) okSA66))
      fun dp H8 e8 hdp => ⟨m, a, dp, digitsF (cellF ns 1) SA66, rfl, sq_of hdp, digits_in _ _ (pos_of okSA66), hm1, hm60, ha400, fun l hll hls sp H9 nsp e9 hsp => ?_⟩
    have e19 : Ex H1 H9 := (e17.trans e8).trans e9
    refine q_asg (ev_call (ea_cons (ev_var rfl) ea_nil) (sv_prs (K := K) (sq_of hsp) (by omega))) fun H10 e10 => ?_
    have hne : l ≠ [] := by rintro rfl; simp at hll; omega
    obtain ⟨mx, hmx, hmx2⟩ := top_ex hne
    obtain ⟨mn, hmn, hmn2⟩ := low_ex hne
    have hle := pp_le hm1 hll hls
    have hiff := pp_iff hm1 hll hls hmx hmn hmx2 hmn2
    have hsp10 := e10 _ _ hsp
    have hspI : SqL K H10 sp ((nI l).map V.int) := by rw [← nV_nI]; exact sq_of hsp10
    refine q_when (b := false) (et_is (et_or (et_test (ev_op (ev_var rfl) (ev_var rfl) rv_I0)) fun _ => et_test (ev_op (ev_op (ev_var rfl) (ev_var rfl) (rv_eq rfl)) (ev_op (ev_op (ev_maxR (K := K) (v := (mx : Int)) (ev_var rfl) hspI (by rw [nI_len]; omega) (fun z hz h2 => by
        obtain ⟨n, hn, rfl⟩ := mem_nI hz
        have b1 := h2 _ (nI_mem hmx)
        have b2 := hmx2 n hn
        omega)) (ev_minR (K := K) (v := (mn : Int)) (ev_var rfl) hspI (by rw [nI_len]; omega) (fun z hz h2 => by
        obtain ⟨n, hn, rfl⟩ := mem_nI hz
        have b1 := h2 _ (nI_mem hmn)
        have b2 := hmn2 n hn
        omega)) rv_I0) ev_c rv_I0) (rv_ne rfl))) (by
        rw [decide_eq_false (by omega)]
        have hx : (decide (V.int ((ppN m a : Nat) : Int) = V.int ((pr l : Nat) : Int))) = decide ((mx : Int) - (mn : Int) ≤ 1) := decide_eq_decide.mpr ⟨fun z => by
          have := hiff.mp (by have := V.int.inj z; omega)
          have h3 := hmn2 mx hmx
          omega, fun z => by
          have := hiff.mpr (by omega)
          rw [this]⟩
        rw [hx, decide_eq_true rfl]
        rfl)) (fun hb => absurd hb (by decide)) fun _ H11 e11 => ?_
    have e111 : Ex H1 H11 := (e19.trans e10).trans e11
    obtain ⟨m2, hm2, hm2a, hm2b⟩ : ∃ m2 : Nat, (1 : Int) + D1.getD 4 0 = (m2 : Int) ∧ 1 ≤ m2 ∧ m2 ≤ 4 := ⟨(1 + D1.getD 4 0).toNat, by omega, by omega, by omega⟩
    obtain ⟨a2, ha2, ha2b⟩ : ∃ a2 : Nat, D1.getD 5 0 = (a2 : Int) ∧ a2 ≤ 8 := ⟨(D1.getD 5 0).toNat, by omega, by omega⟩
    have ev4 : ∀ {H' : Hp} {σ' : L2.St}, Ex H1 H' → σ'[1]? = some (some (.ref pk)) → Ev (tOp (rI0 fun i j => .int (i + j)) (tC (.int 1)) (tOp (rIxL K) (tVar 1) (tC (.int 4)))) σ' H' (.int (m2 : Int)) := fun e hσ => ev_is (ev_op ev_c (pkg 4 e (by decide) hσ) rv_I0) (congrArg V.int hm2)
    have ev5 : ∀ {H' : Hp} {σ' : L2.St}, Ex H1 H' → σ'[1]? = some (some (.ref pk)) → Ev (tOp (rIxL K) (tVar 1) (tC (.int 5))) σ' H' (.int (a2 : Int)) := fun e hσ => ev_is (pkg 5 e (by decide) hσ) (congrArg V.int ha2)
    refine q_asg (v := .int ((ppN m2 a2 : Nat) : Int)) (ev_call (ea_cons (ev4 e111 rfl) (ea_cons (ev5 e111 rfl) ea_nil)) (sv_pp hm2a (by omega) (by omega))) fun H12 e12 => ?_
    refine q_when (b := !true) (et_not (et_B (ev_call (ea_cons (ev_var rfl) ea_nil) sv_whole))) (fun hb => absurd hb (by decide)) fun _ H13 e13 => ?_
    have e113 : Ex H1 H13 := (e111.trans e12).trans e13
    have hspl : (splits m2 a2).length ≤ 729 := by
      show ((spl a2 (m2 - 1)).map _).length ≤ 729
      rw [List.length_map]
      exact spl_small ha2b (by omega)
    refine q_asgL (xs := (splits m2 a2).map fun r => V.int ((pr r : Nat) : Int)) (el_lcLL (K := K) (fun r => V.int ((pr r : Nat) : Int)) (sll_splits (ea_cons (ev4 e113 rfl) (ea_cons (ev5 e113 rfl) ea_nil)) hm2a hm2b ha2b) (by omega) (fun _ => rfl) (fun r row H2 e2 hr hm => ev_call (ea_cons (ev_var rfl) ea_nil) (sv_prs (K := K) (sq_of hr) (by have := ((splits_in hm2a row).mp hm).2; omega)))) fun qp H14 nqp e14 hqp => ?_
    have hprI : (splits m2 a2).map (fun r => V.int ((pr r : Nat) : Int)) = (nI ((splits m2 a2).map pr)).map V.int := by
      unfold nI
      rw [List.map_map, List.map_map]
      rfl
    have hevm : evenN m2 a2 ∈ splits m2 a2 := (splits_in hm2a _).mpr ⟨even_len _ _, even_sum hm2a⟩
    refine q_when (b := false) (et_is (et_test (ev_op (ev_var rfl) (ev_minR (K := K) (ns := nI ((splits m2 a2).map pr)) (v := ((ppN m2 a2 : Nat) : Int)) (ev_var rfl) (by rw [← hprI]; exact sq_of hqp) (by rw [nI_len, List.length_map]; exact List.length_pos_of_mem hevm) (fun z hz h2 => by
        obtain ⟨n, hn, rfl⟩ := mem_nI hz
        obtain ⟨r, hr, rfl⟩ := List.mem_map.mp hn
        obtain ⟨r1, r2⟩ := (splits_in hm2a r).mp hr
        have b1 := h2 _ (nI_mem (List.mem_map.mpr ⟨_, hevm, rfl⟩))
        rw [even_pp hm2a] at b1
        have b2 := pp_le hm2a r1 r2
        omega)) (rv_ne rfl))) (by rw [decide_eq_true rfl]; rfl)) (fun hb => absurd hb (by decide)) fun _ H15 e15' => ?_
    have e115 : Ex H1 H15 := (e113.trans e14).trans e15'
    refine q_call1L (ys := (digitsF (cellF ns 2) SB66).map V.int) (el_call2L (xs := SB66.map V.int) (ev_call (ea_cons (ev_var rfl) (ea_cons ev_c ea_nil)) (sv_cell (ex_l (e1.trans e115) hS) (by decide) (by decide))) (el_cat (el_lst (ea_cons ev_c (ea_cons ev_c (ea_cons ev_c (ea_cons ev_c (ea_cons ev_c ea_nil))))) (by show 5 ≤ 100000; decide)) (el_rep (el_lst (ea_cons ev_c ea_nil) (by show 1 ≤ 100000; decide)) (fun _ _ => ev_c) (by decide) (by decide) (by decide)) (by decide)) (fun p H1 hp e => sl_digits (sq_of hp) okSB66))
      fun dp2 H16 e16 hdp2 => ⟨dp2, digitsF (cellF ns 2) SB66, rfl, sq_of hdp2, digits_in _ _ (pos_of okSB66), fun row hrl rp H17 nrp e17' hrp => ?_⟩
    have e117 : Ex H1 H17 := (e115.trans e16).trans e17'
    refine q_asgL (el_list (K := K) (ev_var rfl) (sq_of hrp)) fun hp H18 nhp e18 hhp => ?_
    have hrp18 := e18 _ _ hrp
    refine q_asgU (eu_tup (ea_cons ev_c (ea_cons (ev_call (ea_cons (ev_var rfl) (ea_cons (ev_var rfl) ea_nil)) (sv_lm (K := K) (sq_of hrp18) hm1 (by omega) (by omega))) ea_nil)) (by show 2 ≤ 100000; decide)) fun up H19 nup e19' hup => ?_
    have hrp19 := e19' _ _ hrp18
    have hhp19 := e19' _ _ hhp
    refine q_when (b := false) (et_is (et_or (et_not (et_B (ev_callU1 (eu_call (ea_cons (ev_var rfl) (ea_cons (ev_var rfl) ea_nil)) (su_mc (K := K) (.inl (sq_of hhp19)) hm1 (by omega) (by omega))) (ev_var rfl) (fun p H1 hp e => sv_same hp (e _ _ hup))))) fun _ => et_test (ev_neInts (K := K) (l := nI row) (ev_var rfl) (ev_var rfl) (by rw [← nV_nI]; exact sq_of hhp19) (by rw [← nV_nI]; exact sq_of hrp19))) rfl) (fun hb => absurd hb (by decide)) fun _ H20 e20 => ?_
    have hhp20 := e20 _ _ hhp19
    have hup20 := e20 _ _ hup
    have hrp20 := e20 _ _ hrp19
    refine q_reverse (K := K) (ev_var rfl) hhp20 fun H21 e21 => ?_
    have hrev : (nV row).reverse = nV row.reverse := by unfold nV; rw [List.map_reverse]
    rw [hrev]
    have huh : up ≠ hp := fun z => by rw [z, hhp] at nup; cases nup
    have hrh : rp ≠ hp := fun z => by rw [← z, hrp] at nhp; cases nhp
    have e122 : Ex H1 (upd H21 hp (.lst (nV row.reverse))) := Ex.mut ((((e117.trans e18).trans e19').trans e20).trans e21) (fresh_back e117 nhp)
    have hup22 : (upd H21 hp (.lst (nV row.reverse))) up = some (.tup [.int 1, .int ((mostP m row : Nat) : Int)]) := by rw [upd_ne huh]; exact e21 _ _ hup20
    have hrp22 : (upd H21 hp (.lst (nV row.reverse))) rp = some (.lst (nV row)) := by rw [upd_ne hrh]; exact e21 _ _ hrp20
    have hhp22 : (upd H21 hp (.lst (nV row.reverse))) hp = some (.lst (nV row.reverse)) := upd_same
    generalize upd H21 hp (.lst (nV row.reverse)) = H22 at e122 hup22 hrp22 hhp22 ⊢
    refine q_when (b := !true) (et_not (et_B (ev_callU1 (eu_callN (vs := []) (zs := [.int (m : Int), .ref hp]) ea_nil (ea_cons (ev_var rfl) (ea_cons (ev_var rfl) ea_nil)) rfl rfl (su_mc (K := K) (row := row.reverse) (.inl (sq_of hhp22)) hm1 (by omega) (by rw [List.length_reverse]; omega))) (ev_var rfl) (fun p H1 hp e => sv_same hp (by rw [mostP_rev]; exact e _ _ hup22))))) (fun hb => absurd hb (by decide)) fun _ H23 e23 => ?_
    have e123 : Ex H1 H23 := e122.trans e23
    have elr : ((nV row).length : Int) = (row.length : Int) := by rw [nV_len]
    have f0 := Int.emod_nonneg (D1.getD 3 0) (show (row.length : Int) + 1 ≠ 0 by omega)
    have f1 := Int.emod_lt_of_pos (D1.getD 3 0) (show (0 : Int) < (row.length : Int) + 1 by omega)
    have hcut : cutV (nV row) none (some (D1.getD 3 0 % (((nV row).length : Int) + 1))) = nV (row.take (D1.getD 3 0 % ((row.length : Int) + 1)).toNat) := by
      rw [elr]
      unfold nV
      rw [cutV_L, cutL_map, cutL_to f0]
    refine q_asgL (xs := nV (row.take (D1.getD 3 0 % ((row.length : Int) + 1)).toNat)) (by
      rw [← hcut]
      exact el_sl (ev_var rfl) eo_none (eo_some (ev_op (ev_int (pkg 3 e123 (by decide) rfl)) (ev_op (ev_len (K := K) (ev_var rfl) (sq_of (e23 _ _ hrp22))) ev_c rv_I0) (rv_I (by omega)))) (sq_of (e23 _ _ hrp22))) fun fp H24 nfp e24 hfp => ?_
    have hfl : (row.take (D1.getD 3 0 % ((row.length : Int) + 1)).toNat).length ≤ 400 := by rw [List.length_take]; omega
    generalize row.take (D1.getD 3 0 % ((row.length : Int) + 1)).toNat = few at hfp hfl ⊢
    have e124 : Ex H1 H24 := e123.trans e24
    refine q_when (b := !true) (et_not (et_B (ev_callUU (eu_callVU (ev4 e124 rfl) (eu_tupOf (K := K) (ev_var rfl) (sq_of hfp)) (fun p H1 hp e => su_mc (K := K) (.inr (st_of hp)) hm2a (by omega) (by omega))) (eu_tup (ea_cons ev_c (ea_cons (ev_call (ea_cons (ev4 e124 rfl) (ea_cons (ev_var rfl) ea_nil)) (sv_lm (K := K) (sq_of hfp) hm2a (by omega) (by omega))) ea_nil)) (by show 2 ≤ 100000; decide)) (fun p r H1 hp hr e => sv_same hp hr)))) (fun hb => absurd hb (by decide)) fun _ H25 e25 => ?_
    refine q_when (b := !true) (et_not (et_B (ev_callUU (eu_callVL (ev_var rfl) (el_lst ea_nil (by decide)) (fun p H1 hp e => su_mc (K := K) (row := []) (.inl (sq_of hp)) hm1 (by omega) (by show 0 ≤ 512; decide))) (eu_tup (ea_cons ev_c (ea_cons ev_c ea_nil)) (by show 2 ≤ 100000; decide)) (fun p r H1 hp hr e => sv_same hp hr)))) (fun hb => absurd hb (by decide)) fun _ H26 e26 => ?_
    refine q_asg (v := .int ((ppN m a : Nat) : Int)) (ev_callN (vs := []) (zs := [.int (m : Int), .int (a : Int)]) ea_nil (ea_cons (ev_var rfl) (ea_cons (ev_var rfl) ea_nil)) rfl rfl (sv_pp (m := m) (a := a) hm1 (by omega) (by omega))) fun H27 e27 => ?_
    have e2227 : Ex H22 H27 := (((e23.trans e24).trans e25).trans e26).trans e27
    refine s_ret (v := .bl (true && (decide (V.int ((ppN m a : Nat) : Int) = V.int ((ppN m a : Nat) : Int)) && true))) (ev_andV (ev_call (ea_cons (ev_var rfl) ea_nil) sv_whole) fun _ => ev_andV (ev_op (ev_var rfl) (ev_var rfl) (rv_eq rfl)) fun _ => ev_callU1 (eu_callVU (ev_var rfl) (eu_tupOf (K := K) (ev_var rfl) (sq_of (e2227 _ _ hrp22))) (fun p H1 hp e => su_mc (K := K) (.inr (st_of hp)) hm1 (by omega) (by omega))) (ev_var rfl) (fun p H1 hp e => sv_same hp (e _ _ (e2227 _ _ hup22)))) fun H28 e28 => ?_
    rw [decide_eq_true rfl]
    exact q H28
end
end My

set_option Elab.async false
set_option linter.all false
set_option maxRecDepth 100000
set_option maxHeartbeats 0
namespace My
open PySem PySem.Spec PyProof.Rows L2 Evl
def d_power_product : He.DefD := ⟨("power_product", none), "power_product", "power_product", defArgs s_power_product, defBody s_power_product, defScope s_power_product, [], []⟩
def d_most_chance : He.DefD := ⟨("most_chance", none), "most_chance", "most_chance", defArgs s_most_chance, defBody s_most_chance, defScope s_most_chance, [], []⟩
def d_power : He.DefD := ⟨("_power", none), "_power", "_power", defArgs s_power, defBody s_power, defScope s_power, [], []⟩
def d_law_whole : He.DefD := ⟨("_law_whole", none), "_law_whole", "_law_whole", defArgs s_law_whole, defBody s_law_whole, defScope s_law_whole, [], []⟩
def d_law_cell : He.DefD := ⟨("_law_cell", none), "_law_cell", "_law_cell", defArgs s_law_cell, defBody s_law_cell, defScope s_law_cell, [], []⟩
def d_law_digits : He.DefD := ⟨("_law_digits", none), "_law_digits", "_law_digits", defArgs s_law_digits, defBody s_law_digits, defScope s_law_digits, [], []⟩
def d_law_fraction : He.DefD := ⟨("_law_fraction", none), "_law_fraction", "_law_fraction", defArgs s_law_fraction, defBody s_law_fraction, defScope s_law_fraction, [], []⟩
def d_law_same : He.DefD := ⟨("_law_same", none), "_law_same", "_law_same", defArgs s_law_same, defBody s_law_same, defScope s_law_same, [], []⟩
def d_law_power : He.DefD := ⟨("_law_power", none), "_law_power", "_law_power", defArgs s_law_power, defBody s_law_power, defScope s_law_power, [], []⟩
def d_law_even : He.DefD := ⟨("_law_even", none), "_law_even", "_law_even", defArgs s_law_even, defBody s_law_even, defScope s_law_even, [], []⟩
def d_law_powers : He.DefD := ⟨("_law_powers", none), "_law_powers", "_law_powers", defArgs s_law_powers, defBody s_law_powers, defScope s_law_powers, [], []⟩
def d_law_most : He.DefD := ⟨("_law_most", none), "_law_most", "_law_most", defArgs s_law_most, defBody s_law_most, defScope s_law_most, [], []⟩
def d_law_splits : He.DefD := ⟨("_law_splits", none), "_law_splits", "_law_splits", defArgs s_law_splits, defBody s_law_splits, defScope s_law_splits, [], []⟩
def d_law_split : He.DefD := ⟨("_law_split", none), "_law_split", "_law_split", defArgs s_law_split, defBody s_law_split, defScope s_law_split, [], []⟩
def d_law_lengths : He.DefD := ⟨("_law_lengths", none), "_law_lengths", "_law_lengths", defArgs s_law_lengths, defBody s_law_lengths, defScope s_law_lengths, [], []⟩
def d_law : He.DefD := ⟨("law", none), "law", "law", defArgs s_law, defBody s_law, defScope s_law, [], []⟩
def fn : List He.DefD := [d_power_product, d_most_chance, d_power, d_law_whole, d_law_cell, d_law_digits, d_law_fraction, d_law_same, d_law_power, d_law_even, d_law_powers, d_law_most, d_law_splits, d_law_split, d_law_lengths, d_law]
def fa : List He.Fa := [.glo "power_product", .glo "most_chance", .glo "_power", .glo "_law_whole", .glo "_law_cell", .glo "_law_digits", .glo "_law_fraction", .glo "_law_same", .glo "_law_power", .glo "_law_even", .glo "_law_powers", .glo "_law_most", .glo "_law_splits", .glo "_law_split", .glo "_law_lengths", .glo "law", .free "len", .free "int", .free "bool", .free "str", .free "list", .free "tuple", .free "range", .free "max", .free "min", .free "sum", .free "isinstance", .free "sorted", .free "repr", .free "abs", .free "enumerate", .free "divmod"]
abbrev R : PySem.W.OpenRow := PySem.W.OpenLaw.row PySem.Challenge.rw_unpressed_k66_power_products
abbrev hk : PySem.W.Hook := He.hookD 4 fa fn
def ob (s : PySem.W.SharedT) : He.AlD := He.obsDG 4 fa fn (HandSHeadRun.getT s)
theorem ob_eq (s : PySem.W.SharedT) : ob s = hk.obs s.abs := He.obsDG_eq (HandSHeadRun.getT_eq s)
abbrev loose : List Str := ["power_product", "most_chance", "_power", "_law_whole", "_law_cell", "_law_digits", "_law_fraction", "_law_same", "_law_power", "_law_even", "_law_powers", "_law_most", "_law_splits", "_law_split", "_law_lengths"]
theorem run (w : World) : HandSHeadRun.RunEq R (PySem.W.view R.prog [17]) hk ob 3000 loose w := by
  intro os
  kernel_rfl
theorem at_of {K : PySem.W.Frag} {mg : Str → Option Value} {h : Heap} (X : K.In h) (G : h.Ns mainGlobals mg) (c : He.SaysD fa fn K) (i : Nat) {x : Str} {st : Stmt} (h1 : fn[i]? = some ⟨(x, none), x, x, defArgs st, defBody st, defScope st, [], []⟩) (h2 : fa[i]? = some (.glo x)) : At K mg x st := by
  obtain ⟨fd, F⟩ := c.def_ i h1
  exact ⟨_, fd, F, He.glo_ok X G (c.fact i h2)⟩
theorem tt_of {K : PySem.W.Frag} {mg : Str → Option Value} {h : Heap} (X : K.In h) (G : h.Ns mainGlobals mg) (c : He.SaysD fa fn K) : TT mg := ⟨He.free_ok X G (c.fact 16 (f := .free "len") rfl), He.free_ok X G (c.fact 17 (f := .free "int") rfl), He.free_ok X G (c.fact 18 (f := .free "bool") rfl), He.free_ok X G (c.fact 19 (f := .free "str") rfl), He.free_ok X G (c.fact 20 (f := .free "list") rfl), He.free_ok X G (c.fact 21 (f := .free "tuple") rfl), He.free_ok X G (c.fact 22 (f := .free "range") rfl), He.free_ok X G (c.fact 23 (f := .free "max") rfl), He.free_ok X G (c.fact 24 (f := .free "min") rfl), He.free_ok X G (c.fact 25 (f := .free "sum") rfl), He.free_ok X G (c.fact 26 (f := .free "isinstance") rfl), He.free_ok X G (c.fact 27 (f := .free "sorted") rfl), He.free_ok X G (c.fact 28 (f := .free "repr") rfl), He.free_ok X G (c.fact 29 (f := .free "abs") rfl), He.free_ok X G (c.fact 30 (f := .free "enumerate") rfl)⟩

theorem facts {P : Program} {w : World} {K : PySem.W.Frag} {h : Heap} {mg : Str → Option Value} {f : Addr} (X : K.In h) (G : h.Ns mainGlobals mg) (hfa : mg ("law" : Str) = some (.ref f)) (c : He.SaysD fa fn K) :
    ∃ fd : FuncData, (∀ (s : Shared) (v : Value), BindsTo s fd ⟨[v], []⟩ [("script", v)]) ∧ ∀ base : Heap, K.In base → base.Ns mainGlobals mg → FnOk P w K mg base CX0 4 f fd ["script"] (spLaw K) := by
  have A_power_product : At K mg "power_product" s_power_product := at_of X G c 0 rfl rfl
  have A_most_chance : At K mg "most_chance" s_most_chance := at_of X G c 1 rfl rfl
  have A_power : At K mg "_power" s_power := at_of X G c 2 rfl rfl
  have A_law_whole : At K mg "_law_whole" s_law_whole := at_of X G c 3 rfl rfl
  have A_law_cell : At K mg "_law_cell" s_law_cell := at_of X G c 4 rfl rfl
  have A_law_digits : At K mg "_law_digits" s_law_digits := at_of X G c 5 rfl rfl
  have A_law_fraction : At K mg "_law_fraction" s_law_fraction := at_of X G c 6 rfl rfl
  have A_law_same : At K mg "_law_same" s_law_same := at_of X G c 7 rfl rfl
  have A_law_power : At K mg "_law_power" s_law_power := at_of X G c 8 rfl rfl
  have A_law_even : At K mg "_law_even" s_law_even := at_of X G c 9 rfl rfl
  have A_law_powers : At K mg "_law_powers" s_law_powers := at_of X G c 10 rfl rfl
  have A_law_most : At K mg "_law_most" s_law_most := at_of X G c 11 rfl rfl
  have A_law_splits : At K mg "_law_splits" s_law_splits := at_of X G c 12 rfl rfl
  have A_law_split : At K mg "_law_split" s_law_split := at_of X G c 13 rfl rfl
  have A_law_lengths : At K mg "_law_lengths" s_law_lengths := at_of X G c 14 rfl rfl
  have A_law : At K mg "law" s_law := at_of X G c 15 rfl rfl
  have T : TT mg := tt_of X G c
  obtain ⟨f0, fd, F, hm⟩ := A_law.ex
  have e := hfa.symm.trans hm
  cases e
  have b := FunD.bindsA (ps := ["script"]) F fun _ _ _ _ _ _ us hl => match us, hl with | [_], _ => rfl
  refine ⟨fd, fun s v => b s [v] rfl, fun base _ _ => ?_⟩
  have hDM : mg ("divmod" : Str) = none := He.free_ok X G (c.fact 31 (f := .free "divmod") rfl)
  have D1 := ok_law_whole (P := P) (w := w) (base := base) T A_law_whole
  have D2 := ok_law_cell (P := P) (w := w) (base := base) T A_law_cell
  have D3 := ok_law_digits (P := P) (w := w) (base := base) T A_law_digits
  have D4 := ok_power (P := P) (w := w) (base := base) T A_power
  have D5 := ok_power_product D4 hDM A_power_product
  have D6 := ok_most_chance D5 A_most_chance
  have D7 := ok_law_fraction D1 T A_law_fraction
  have D8 := ok_law_same D7 A_law_same
  have D9 := ok_law_power (P := P) (w := w) (base := base) T A_law_power
  have D10 := ok_law_even (P := P) (w := w) (base := base) T A_law_even
  have D11 := ok_law_powers D9 T A_law_powers
  have D12 := ok_law_most D11 D10 A_law_most
  have D13 := ok_law_splits (P := P) (w := w) (base := base) T A_law_splits
  have D14 := ok_law_split D10 T A_law_split
  have D15 := ok_law_lengths (P := P) (w := w) (base := base) T A_law_lengths
  have DL := ok_law D2 D3 D1 D10 D11 D5 D14 D13 D15 D12 D8 D6 (kd_mc D6) (kd_pp D5) T A_law
  obtain ⟨f1, fd1, F1, FO, hm1, _⟩ := DL.ex
  have e := hm.symm.trans hm1
  cases e
  have e2 : fd = fd1 := fd_one F F1
  rw [e2]
  exact FO
end My
open PySem PySem.W PySem.Calls PyProof.Rows
theorem PySem.Challenge.cw_unpressed_k66_power_products_holds : PySem.Challenge.rw_unpressed_k66_power_products.Holds := by
  w_on; o_law
  refine HandSHeadRun.head_any (r := OpenLaw.row PySem.Challenge.rw_unpressed_k66_power_products) (q := view (OpenLaw.row PySem.Challenge.rw_unpressed_k66_power_products).prog [17]) (H := My.hk) (ob := My.ob) (M := 3000) (loose := My.loose) (d := HandSHeadRun.topDef (OpenLaw.row PySem.Challenge.rw_unpressed_k66_power_products).prog 17) (kwd := []) My.ob_eq
    (by kernel_rfl) (fun s => by kernel_rfl) My.run (by kernel_rfl) (by kernel_rfl) (by kernel_rfl) (by rfl) (by first | assumption | decide +kernel) (by decide +kernel) ⟨rfl, rfl, rfl, rfl, rfl, by decide +kernel⟩ ?hw ?hc
  case hw => w_witness2
  case hc =>
    refine L2.walk_ofE (l := PySem.Challenge.rw_unpressed_k66_power_products) (n := 63) (k := 4) (x := "script") (CX := L2.CX0) rfl (by decide) (by kernel_rfl) ⟨rfl, by decide, by decide⟩ ?F (fun _ _ _ _ z => z)
    intro w mg fa h Y G hmg0
    obtain ⟨K, KX, c⟩ := Y
    have hmg : mg ("law" : PySem.Str) = some (.ref fa) := by
      have e : (HandSHeadRun.topDef (OpenLaw.row PySem.Challenge.rw_unpressed_k66_power_products).prog 17).name = ("law" : PySem.Str) := by kernel_rfl
      rw [← e]
      exact hmg0
    obtain ⟨fd, hb, hF⟩ := My.facts (P := (PySem.Challenge.rw_unpressed_k66_power_products).prog) (w := w) KX G hmg c
    exact ⟨K, fd, My.spLaw K, KX, hb, fun H a ns hl _ hS => ⟨a, ns, rfl, hS, fun _ => rfl⟩, hF⟩
