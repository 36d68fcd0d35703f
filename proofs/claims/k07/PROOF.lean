import PyProof.Rows.All
import Wide.All
import OpenK.AllK
import Wide.FinOn
import HandS.ForMost
import HandS.Evl
import KE.KStateDown
import HandS.Wide
import HandS.WideBits
import HandS.StrMore
import HandS.SortInts
import HandS.IsInst
import HandS.FStr
import HandS.Conv
import HandS.Defaults
import HandS.WordsExc
import HandS.Head0
import HandS.Head1
import HandS.Head2
import HandS.HeadEnd
import HandS.HeadHook1
import HandS.HeadHook2
import HandS.Gcd
import HandS.Head3
import Flt.RightSqrt
import KE.GoesMore
import KE.GoesEnum
import PyProof.EnumMake
import HandS.Iter
import HandS.Flt
import HandS.RaiseMore
import HandS.Codes
import HandS.Dict
import PyProof.StrOps2
import HandS.Words
import KE.KExcSuper
import HandS.ExcSuper
import HandS.ExcInit
import HandS.Nested
import KE.KExcIs
import HandS.ExcIs
import HandS.ExcField
import HandS.TryOnly
import HandS.Style
import PyProof.Rows.StrRev
import PyProof.Rows.StrLawsPart
import PyProof.ListIndex
import HandS.Replace
import HandS.More
import HandS.HeadHook4
import PySem.Challenge.RW_unpressed_k07_text_with_count
set_option Elab.async false
set_option maxRecDepth 100000
set_option maxHeartbeats 4000000
namespace My
open PySem PySem.W PySem.Calls PyProof.Rows PySem.Builtin PySem.Builtin.Str PySem.Builtin.Int
/-- a number's digits to base two -/
def binT (n : Nat) : PySem.Str := ⟨((Nat.toDigits 2 n).map Char.toNat).toArray⟩
theorem fmt_b {a : Int} {t : Tok} (h0 : 0 ≤ a) (hL : (binT a.natAbs).length ≤ sizeLine) (u : Tok) : Meets («int.__format__» ⟨[.int a t, .str (⟨#[98]⟩ : PySem.Str) u], []⟩) (fun _ R s => ∀ t' k, R (.ok (.ret (.str (binT a.natAbs) t'))) { s with toks := k }) := by
  apply KPc.meets_of
  intro prog w A s Q E hq
  unfold Builtin.«int.__format__»
  refine wpAny_bind (wpAny_of_eq (a := (_, _)) rfl ?_)
  refine wpAny_bind (wpAny_of_eq (a := _) rfl ?_)
  kxf_if
  refine wpAny_bind (wpAny_typeNameOf (T := "str") (typeIs_str _ _ _) (by decide) fun _ => ?_)
  refine wpAny_bind (wpAny_of_eq (a := some _) rfl ?_)
  kxf_if
  kxf_if
  refine wpAny_bind (wpAny_typeNameOfCut_int ?_)
  (repeat kxf_if)
  refine (fun (e : _ = binT a.natAbs) => KXf.ret_text e (by rw [e]; exact hL) hq) ?e
  case e =>
    have hn : decide (a < 0) = false := decide_eq_false (by omega)
    have hD : Nat.toDigits 2 a.natAbs ≠ [] := Nat.toDigits_ne_nil
    rw [hn]
    unfold binT
    generalize Nat.toDigits 2 a.natAbs = D at hD ⊢
    conv => lhs; whnf
    have z : ∀ n : Nat, (-1 - (n : Int)).toNat = 0 := fun n => by omega
    simp [hD, Option.isNone, List.head?, z]
    trace_state
end My

set_option Elab.async false
set_option linter.all false
set_option maxRecDepth 100000
set_option maxHeartbeats 4000000
namespace My
open PySem PySem.Spec PyProof.Rows L2 Evl
/-! ### defs at their names -/
structure Dn (P : Program) (w : World) (K : PySem.W.Frag) (mg : Str → Option Value) (base : Heap) (k : Nat) (x : Str) (st : Stmt) (ps : List Str) (sp : Sp) : Prop where
  ex : ∃ (f : Addr) (fd : FuncData), FunD K x x (defArgs st) (defBody st) (defScope st) [] [] f fd ∧ FnOk P w K mg base CX0 k f fd ps sp ∧ mg x = some (.ref f) ∧ Binds K fd ps []
/-- the same for a call by keywords ks -/
structure Kd (P : Program) (w : World) (K : PySem.W.Frag) (mg : Str → Option Value) (base : Heap) (k : Nat) (x : Str) (n : Nat) (ks : List Str) (gV : List V → List V → List V) (sp : Sp) : Prop where
  ex : ∃ (f : Addr) (fd : FuncData) (ps : List Str) (g : List Value → List Value → List Value), FnOk P w K mg base CX0 k f fd ps sp ∧ mg x = some (.ref f) ∧ PySem.W.keepIn K (.ref f) = true ∧ KBn K fd ps n ks g gV
abbrev FnP (K : PySem.W.Frag) (x : Str) (st : Stmt) (f : Addr) (fd : FuncData) : Prop := FunD K x x (defArgs st) (defBody st) (defScope st) [] [] f fd
structure At (K : PySem.W.Frag) (mg : Str → Option Value) (x : Str) (st : Stmt) : Prop where
  ex : ∃ (f : Addr) (fd : FuncData), FnP K x st f fd ∧ mg x = some (.ref f)
section
variable {P : Program} {w : World} {K : PySem.W.Frag} {mg : Str → Option Value} {base : Heap} {x : Str} {st : Stmt} {N ps : List Str} {k : Nat} {sp : Sp}
theorem FunD.kbn {K : PySem.W.Frag} {x qual : Str} {params : Arguments} {body : List Stmt} {scope : Scope} {kws : List (Str × V)} {f : Addr} {fd : FuncData} {ps : List Str} (F : FunD K x qual params body scope [] kws f fd) (n : Nat) (ks : List Str) (g : List Value → List Value → List Value) (gV : List V → List V → List V)
    (h : ∀ (kV doc pm : Value) (an : Option Addr) (cdv ct : Value) (us ws : List Value), us.length = n → ws.length = ks.length → bindArgs (PySem.W.fnOf x qual params body scope .none kV doc pm an cdv ct) ⟨us, ks.zip ws⟩ = pure (ps.zip (g us ws)))
    (hr : ∀ {vs : List V} {us : List Value} {zs : List V} {ws : List Value}, Vals vs us → Vals zs ws → Vals (gV vs zs) (g us ws)) : KBn K fd ps n ks g gV := by
  obtain ⟨oc, od, dV, kV, doc, pm, an, cdv, ct, osl, rfl, lk, hcd, hD, hK⟩ := F.ex
  rcases hD with ⟨_, rfl⟩ | ⟨e, _⟩
  · exact ⟨fun s us ws _ l1 l2 => .of_eq (h kV doc pm an cdv ct us ws l1 l2), hr⟩
  · exact absurd rfl e
theorem dn_ok (F : At K mg x st) (S : FnScope N ps (defScope st))
    (hb : ∀ (kV doc pm : Value) (an : Option Addr) (cdv ct : Value) (us : List Value), us.length = ps.length → bindArgs (PySem.W.fnOf x x (defArgs st) (defBody st) (defScope st) .none kV doc pm an cdv ct) ⟨us, []⟩ = pure (ps.zip us))
    (len : ∀ vs H Q E, sp vs H Q E → vs.length = ps.length)
    (hbody : ∀ (f : Addr) (cdv : Value) (A : Around) (outer : List Env) (s : Shared) (H : Hp) (vs : List V) (Q : VK) (E : XK), Room k (A.deeper (envOfC x (defScope st) s.heap.objs.size f cdv)) → sp vs H Q E →
      ∃ t, PSs (cxOf CX0 P w K mg base N x (defScope st) f cdv A outer s H E).nox (defBody st) t ∧ t { nx := fun _ H' => Q .non H', rt := Q } (start N vs) H) : Dn P w K mg base (k + 1) x st ps sp := by
  obtain ⟨f, fd, F, g⟩ := F.ex
  refine ⟨f, fd, F, FunD.ok F S len (fun cdv A outer s H vs Q E hr h => ?_), g, F.bindsN hb⟩
  obtain ⟨t, h1, h2⟩ := hbody f cdv A outer s H vs Q E hr h
  exact ⟨t, PSs.nox h1, h2⟩
/-- one function object stands at one address -/
theorem fd_one {K : PySem.W.Frag} {x : Str} {st st' : Stmt} {f : Addr} {fd fd' : FuncData} (F : FnP K x st f fd) (F' : FnP K x st' f fd') : fd = fd' := by
  obtain ⟨oc, od, dV, kV, doc, pm, an, cdv, ct, osl, h1, lk, _⟩ := F.ex
  obtain ⟨oc2, od2, dV2, kV2, doc2, pm2, an2, cdv2, ct2, osl2, h2, lk2, _⟩ := F'.ex
  rw [lk] at lk2
  simp only [Option.some.injEq, Obj.mk.injEq, Data.func.injEq] at lk2
  exact lk2.2.2.1
/-- a call by keywords of a def that keeps its promise -/
theorem kd_of (D : Dn P w K mg base k x st ps sp) (n : Nat) (ks : List Str) (g : List Value → List Value → List Value) (gV : List V → List V → List V)
    (h : ∀ (kV doc pm : Value) (an : Option Addr) (cdv ct : Value) (us ws : List Value), us.length = n → ws.length = ks.length → bindArgs (PySem.W.fnOf x x (defArgs st) (defBody st) (defScope st) .none kV doc pm an cdv ct) ⟨us, ks.zip ws⟩ = pure (ps.zip (g us ws)))
    (hr : ∀ {vs : List V} {us : List Value} {zs : List V} {ws : List Value}, Vals vs us → Vals zs ws → Vals (gV vs zs) (g us ws)) : Kd P w K mg base k x n ks gV sp := by
  obtain ⟨f, fd, F, FO, g1, _⟩ := D.ex
  exact ⟨f, fd, ps, g, FO, g1, F.kp, FunD.kbn F n ks g gV h hr⟩
end
section
variable {X : Cx} {k j n : Nat} {x : Str} {p pos : Pos} {ps ks : List Str} {sp : Sp} {gV : List V → List V → List V} {e : Expr} {es : List Expr} {kws : List Keyword} {t tk : TA}
theorem pe_dn {st : Stmt} (D : Dn X.prog X.w X.K X.mg X.base k x st ps sp) (hr : Room j X.A) (hk : k ≤ j) (hg : Gl X x) (ha : PA X (e :: es) t) (hdb : (x == ("__debug__" : Str)) = false := by decide)
    (he : starEach (e :: es) X.env = (false, eval e X.env) :: starEach es X.env := by rfl) (hpl : (backTo pos (starEach es X.env)).any (·.1) = false := by rfl) : PE X (.Call (.Name x p) (e :: es) [] pos) (tCall sp [] E0 t) := by
  obtain ⟨f, fd, FD, F, hm, hb⟩ := D.ex
  exact pe_call F (hr.mono hk) hg hm FD.kp hb .nil pass0 ha (hdb := hdb) (he := he) (hpl := hpl)
theorem pe_kd (D : Kd X.prog X.w X.K X.mg X.base k x 0 ks gV sp) (hr : Room j X.A) (hk' : k ≤ j) (hg : Gl X x) (hkw : PK X kws tk)
    (hall : (backToKw pos (keywordEach kws X.env)).all (·.1.isSome) = true := by rfl) (hks : (backToKw pos (keywordEach kws X.env)).filterMap (·.1) = ks := by rfl)
    (hdb : (x == ("__debug__" : Str)) = false := by decide)
    (hpl : ((backTo pos (starEach [] X.env)).any (·.1) || (backToKw pos (keywordEach kws X.env)).any (·.1.isNone)) = false := by rfl) :
    PE X (.Call (.Name x p) [] kws pos) (tCallN 0 ks.length sp gV E0 tNil tk) := by
  obtain ⟨f, fd, ps, g, F, hm, hk, hb⟩ := D.ex
  refine ⟨fun pins s σ H Q I h => ?_⟩
  refine wpAny_Call_Name_kw (ld_glob I hg hm ?_ hdb)
  refine PySem.W.callWith_KW0 (h₀ := X.base) I.ok.mod.kin hk hall (thn (hkw.run pos pins s σ H _ I h) fun ws s2 ⟨zs, H2, I2, rz, l1, l2, q2⟩ => ⟨I2.kIn, ?_⟩) hpl
  rw [hks]
  exact run_fnN F (hr.mono hk') hb pass0 I2 .nil rz l1 l2 q2
/-- a built-in type by its name -/
theorem pe_tyn (T : String) {x : Str} {pos : Pos} (hg : Gl X x) (hm : X.mg x = none) (hv : bootBuiltins x = some (.type T)) (hn : x ≠ "__name__" := by decide) (hd : (x == ("__debug__" : Str)) = false := by decide) : PE X (.Name x pos) (tC (.ty T)) := pe_bltn hg hm hv (show RelV (.ty T) (.type T) from rfl) hn hd
/-- f'{x:b}' of a number not below 0 -/
def tFmtB (te : TE) : TE := fun σ H Q => te σ H fun x H1 => ∃ i : Int, x = .int i ∧ 0 ≤ i ∧ (binT i.natAbs).length ≤ sizeLine ∧ Q (.str (binT i.natAbs)) H1
theorem pe_fmtB {te : TE} {pos p1 p2 : Pos} {j : Nat} (he : PE X e te) : PE X (.FormattedValue e (-1) (some (.JoinedStr [.Constant (.str "b") j p1] p2)) pos) (tFmtB te) := by
  refine ⟨fun pins s σ H Q I h => ?_⟩
  refine wpAny_FormattedValue_spec (thn (he.run pins s σ H _ I h) fun v s1 hv => ?_)
  obtain ⟨x, H1, I1, r1, i, rfl, h0, hz, q⟩ := hv
  obtain ⟨t, rfl⟩ := r1
  have hs : PE X (.JoinedStr [.Constant (.str "b") j p1] p2) (tC (.str "b")) := pe_joined1 pe_str
  refine thn (hs.run pins s1 σ H1 (fun v H' => v = .str "b" ∧ H' = H1) I1 ⟨rfl, rfl⟩) fun v2 s2 hv2 => ?_
  obtain ⟨y, H2, I2, r2, rfl, rfl⟩ := hv2
  obtain ⟨t2, rfl⟩ := r2
  refine ⟨_, _, rfl, PySem.W.KXf.field_int (spec' := ⟨#[98]⟩) (by decide +kernel) rfl (by decide) (fun u => fmt_b h0 hz u) fun t' k => ?_⟩
  exact ⟨.str _, _, I2.tok _, ⟨_, rfl⟩, q⟩
end
/-! ### readings -/
section
variable {K : PySem.W.Frag} {σ : L2.St} {H : Hp} {ta tb te : TE} {x y z v : V} {D : Ends} {tu tz : TS}
def rInt1 : List V → Hp → VK → Prop := fun xs H Q => (∃ i, xs = [.int i] ∧ Q (.int i) H) ∨ ∃ k, xs = [.bl k] ∧ Q (.int (if k then 1 else 0)) H
theorem ev_int {i : Int} (h : Ev te σ H (.int i)) : Ev (tCB rInt1 (tCons te tNil)) σ H (.int i) := fun H1 e Q q => h H1 e _ fun H2 e2 => Or.inl ⟨i, rfl, q H2 e2⟩
theorem ev_intB {b : Bool} (h : Ev te σ H (.bl b)) : Ev (tCB rInt1 (tCons te tNil)) σ H (.int (if b then 1 else 0)) := fun H1 e Q q => h H1 e _ fun H2 e2 => Or.inr ⟨b, rfl, q H2 e2⟩
def rMin2 : List V → Hp → VK → Prop := fun xs H Q => ∃ i j, xs = [.int i, .int j] ∧ Q (.int (if j < i then j else i)) H
theorem ev_min2 {i j : Int} (ha : Ev ta σ H (.int i)) (hb : Ev tb σ H (.int j)) : Ev (tCB rMin2 (tCons ta (tCons tb tNil))) σ H (.int (if j < i then j else i)) := fun H1 e Q q =>
  ha H1 e _ fun H2 e2 => hb H2 (e.trans e2) _ fun H3 e3 => ⟨i, j, rfl, q H3 (e2.trans e3)⟩
theorem ev_isi {c : V} {t u : Value} {b : Bool} (ha : Ev ta σ H x) (hb : Ev tb σ H c) (k : ClsV c u) (ty : ∀ H1, Ex H H1 → TyX K H1 x t) (e : PySem.W.kitOne K t u = some b) : Ev (tCB (rIsi K) (tCons ta (tCons tb tNil))) σ H (.bl b) := fun H1 e1 Q q =>
  ha H1 e1 _ fun H2 e2 => hb H2 (e1.trans e2) _ fun H3 e3 => ⟨x, c, t, u, b, rfl, k, ty H3 ((e1.trans e2).trans e3), e, q H3 (e2.trans e3)⟩
theorem ev_lenStr {s : Str} (ha : Ev ta σ H (.str s)) (hs : s.length ≤ sizeLine) : Ev (tCB (fun xs H Q => ∃ z : Str, xs = [.str z] ∧ z.length ≤ sizeLine ∧ Q (.int z.length) H) (tCons ta tNil)) σ H (.int (s.length : Int)) := fun H1 e Q q =>
  ha H1 e _ fun H2 e2 => ⟨s, rfl, hs, q H2 e2⟩
theorem ev_bits {i : Int} (h : Ev te σ H (.int i)) : Ev (tBits te) σ H (.int (Builtin.Int.intBits i : Nat)) := fun H1 e Q q => h H1 e _ fun H2 e2 => ⟨i, rfl, q H2 e2⟩
theorem ev_fmtB {i : Int} (h : Ev te σ H (.int i)) (h0 : 0 ≤ i) (hz : (binT i.natAbs).length ≤ sizeLine) : Ev (tFmtB te) σ H (.str (binT i.natAbs)) := fun H1 e Q q => h H1 e _ fun H2 e2 => ⟨i, rfl, h0, hz, q H2 e2⟩
def rZfill : V → List V → Hp → VK → Prop := fun x xs H Q => ∃ (a : Str) (i : Int), x = .str a ∧ xs = [.int i] ∧ PadOk i = true ∧ Q (.str (Txt.zfill a i)) H
theorem ev_zfill {a : Str} {i : Int} (ha : Ev ta σ H (.str a)) (hb : Ev tb σ H (.int i)) (hp : PadOk i = true) : Ev (tBM K "str" rZfill ta (tCons tb tNil)) σ H (.str (Txt.zfill a i)) := fun H1 e Q q =>
  ha H1 e _ fun H2 e2 => ⟨rfl, hb H2 (e.trans e2) _ fun H3 e3 => ⟨a, i, rfl, rfl, hp, q H3 (e2.trans e3)⟩⟩
theorem ev_callN {n m : Nat} {sp : Sp} {gV : List V → List V → List V} {E : XK} {t tk : TA} {vs zs : List V} (h : EvA t σ H vs) (hk : EvA tk σ H zs) (h1 : vs.length = n) (h2 : zs.length = m) (hs : SpV sp (gV vs zs) H z) : Ev (tCallN n m sp gV E t tk) σ H z := fun H1 e Q q =>
  h H1 e _ fun H2 e2 => hk H2 (e.trans e2) _ fun H3 e3 => ⟨h1, h2, hs H3 ((e.trans e2).trans e3) Q (fun H4 e4 => q H4 ((e2.trans e3).trans e4)) E⟩
/-- two new lists one behind the other -/
theorem el_cat {xs ys : List V} (ha : EvL ta σ H xs) (hb : EvL tb σ H ys) (hz : xs.length + ys.length ≤ 100000) : EvL (tOp rCat ta tb) σ H (xs ++ ys) := fun H1 e Q q =>
  ha H1 e _ fun p H2 hp e2 h2 => hb H2 (e.trans e2) _ fun r H3 hr e3 h3 => ⟨p, r, xs, ys, rfl, rfl, e3 p _ h2, h3, sz_of hz, fun l hl => q l _ (fresh_back (e2.trans e3) hl) ((e2.trans e3).trans (Ex.new hl)) upd_same⟩
theorem el_catV {xs ys : List V} {b : Addr} (ha : EvL ta σ H xs) (hb : Ev tb σ H (.ref b)) (hy : H b = some (.lst ys)) (hz : xs.length + ys.length ≤ 100000) : EvL (tOp rCat ta tb) σ H (xs ++ ys) := fun H1 e Q q =>
  ha H1 e _ fun p H2 hp e2 h2 => hb H2 (e.trans e2) _ fun H3 e3 => ⟨p, b, xs, ys, rfl, rfl, e3 p _ h2, ((e.trans e2).trans e3) b _ hy, sz_of hz, fun l hl => q l _ (fresh_back (e2.trans e3) hl) ((e2.trans e3).trans (Ex.new hl)) upd_same⟩
end
end My

set_option Elab.async false
set_option linter.all false
set_option maxRecDepth 100000
set_option maxHeartbeats 4000000
namespace My
open PySem PySem.Spec PyProof.Rows L2 Evl
/-! ### a law's def, called where no text of an object is under way -/
structure FnG (P : Program) (w : World) (K : PySem.W.Frag) (mg : Str → Option Value) (base : Heap) (CX : CXT) (k : Nat) (f : Addr) (fd : FuncData) (ps : List Str) (sp : Sp) : Prop where
  run : ∀ (A : Around) (outer : List Env) (s : Shared) (H : Hp) (args : Args) (us : List Value) (vs : List V) (Q : VK) (E : XK), Room k A → A.guards = some [] → Env0 P w K mg base A outer s H → BindsTo s fd args (ps.zip us) → Vals vs us → sp vs H Q E →
    codeAny (model P w) A (.call (.ref f) args) (CR CX outer P w H s Q E) s
theorem guards_deeper (A : Around) (env : Env) : (A.deeper env).guards = A.guards := rfl
section
variable {P : Program} {w : World} {K : PySem.W.Frag} {mg : Str → Option Value} {base : Heap}
theorem fnG_of {k : Nat} {f : Addr} {fd : FuncData} {x : Str} {st : Stmt} {N ps : List Str} {sp : Sp} (F : FnP K x st f fd) (S : FnScope N ps (defScope st)) (len : ∀ vs H Q E, sp vs H Q E → vs.length = ps.length)
    (body : ∀ (cdv : Value) (A : Around) (outer : List Env) (s : Shared) (H : Hp) (vs : List V) (Q : VK) (E : XK), Room k (A.deeper (envOfC x (defScope st) s.heap.objs.size f cdv)) → A.guards = some [] → sp vs H Q E →
      ∃ t, PSs (cxOf CX0 P w K mg base N x (defScope st) f cdv A outer s H E).nox (defBody st) t ∧ t { nx := fun _ H' => Q .non H', rt := Q } (start N vs) H) : FnG P w K mg base CX0 (k + 1) f fd ps sp := by
  obtain ⟨oc, od, dV, kV, doc, pm, an, cdv, ct, osl, rfl, lk, hcd, _, _⟩ := F.ex
  constructor
  intro A outer t H args us vs Q E room gd env bind rel hsp
  have hlen := len vs H Q E hsp
  have inK : K.In t.heap := env.mod.kin.keeps fun b o z => (env.bs b o z).1
  have noLim : t.heap.NoLimit := env.mod.nolimit.keeps fun b o z => (env.bs b o z).1
  refine codeAny_call_function room.depth (inK _ _ lk) rfl S.co S.gen rfl (PySem.W.codeRec_of inK hcd) (bind _ _ _ _ ?_)
  refine wpAny_newFunctionEnv_cells S.kind (fun y hy => ?_) fun env' e1 t1 inCall => ?_
  · obtain ⟨n, v⟩ := y
    rcases S.par n (List.of_mem_zip hy).1 with z | z
    · exact Or.inl z
    · exact Or.inr ⟨z, PySem.W.cellsFrom_some _ _ _ (Or.inl z)⟩
  subst e1
  refine ⟨noLim.keeps inCall.toInCall.keep, codeAny_func ?_⟩
  obtain ⟨tt, ht0, hq⟩ := body cdv A outer t H vs Q E (room.deeper _) gd hsp
  have ht := PSs.nox ht0
  have J0 : Inv (cxOf CX0 P w K mg base N x (defScope st) f cdv A outer t H E) [] (start N vs) H t1 := inv_start S room.hd env hlen rel inCall
  refine wpAny_mono (ht.run [] t1 (start N vs) H _ J0 hq) (fun fl t2 hs => ?_) fun _ _ z => z
  cases fl with
  | ret u =>
    obtain ⟨v, σ', H', J, rv, q⟩ := hs
    exact ⟨v, H', J.os, J.bare, J.base, J.hok, rv, q⟩
  | next =>
    obtain ⟨σ', H', J, q⟩ := hs
    exact ⟨V.non, H', J.os, J.bare, J.base, J.hok, rfl, q⟩
  | brk =>
    obtain ⟨_, _, _, q⟩ := hs
    exact q.elim
  | cont =>
    obtain ⟨_, _, _, q⟩ := hs
    exact q.elim
/-- the law called on its script -/
theorem lawG_call {k : Nat} {fa a : Addr} {fd : FuncData} {x : Str} {mb : Str → Option Value} {sp : Sp} {t : Shared} {vs : List Value} {ns : List Int}
    (inK : K.In t.heap) (gN : t.heap.Ns mainGlobals mg) (bN : t.heap.Ns builtinsNs mb) (bI : ∀ y : Str, y ≠ "__name__" → mb y = bootBuiltins y) (noLim : t.heap.NoLimit) (gE : t.gens = #[])
    (hobj : t.heap.get? a = some { cls := .type "list", data := .seq vs.toArray }) (hi : IntsAre vs ns) (hl : ns.length ≤ sizeLine) (room : Room k callerA)
    (F : ∀ base : Heap, K.In base → base.Ns mainGlobals mg → FnG P w K mg base CX0 k fa fd [x] sp) (bind : ∀ (s : Shared) (u : Value), BindsTo s fd ⟨[u], []⟩ [(x, u)])
    (hsp : ∀ H : Hp, SqL K H a (ns.map V.int) → sp [.ref a] H (fun v _ => v = .bl true) fun _ _ _ => False) :
    codeAny (model P w) callerA (.call (.ref fa) ⟨[.ref a], []⟩) (fun r s' => r = .ok (.ret (.bool true)) ∧ OldK t.heap s'.heap ∧ s'.os = t.os ∧ AllBare s'.gens) t := by
  have go : ∀ H : Hp, (∀ b, H b ≠ none → b = a ∧ K.lookup a = none ∧ ∃ ob xs, H a = some (HO.frz ob (.lst xs))) → SqL K H a (ns.map V.int) → HOk P w H t.heap →
      codeAny (model P w) callerA (.call (.ref fa) ⟨[.ref a], []⟩) (fun r s' => r = .ok (.ret (.bool true)) ∧ OldK t.heap s'.heap ∧ s'.os = t.os ∧ AllBare s'.gens) t := by
    intro H hH hS hok
    have free : ∀ {b : Addr} {o : Obj} {es : Array DictEntry} {ep : Nat}, t.heap.get? b = some o → o.data = .dict es ep → H b = none := by
      intro b o es ep g d
      by_cases z : H b = none
      · exact z
      · obtain ⟨rfl, _⟩ := hH b z
        rw [hobj] at g
        cases g
        cases (show Data.seq vs.toArray _ = Data.dict es ep from d)
    have ns' : ∀ {b : Addr} {m : Str → Option Value}, t.heap.Ns b m → (hidT t.heap H).Ns b m := by
      rintro b m ⟨o, es, ep, g, d, r⟩
      exact ⟨o, es, ep, hidT_get g (free g d), d, r⟩
    have inB : K.In (hidT t.heap H) := by
      intro b o g
      refine hidT_get (inK b o g) ?_
      by_cases z : H b = none
      · exact z
      · obtain ⟨rfl, z2, _⟩ := hH b z
        rw [z2] at g
        cases g
    have md : Mod K mg (hidT t.heap H) := by
      obtain ⟨mc, h1, h2⟩ := noLim
      exact ⟨inB, ns' gN, ⟨mb, ns' bN, bI⟩, ⟨mc, ns' h1, h2⟩⟩
    have env : Env0 P w K mg (hidT t.heap H) callerA [] t H := ⟨rfl, md, fun b o g => of_hidT g, Nat.le_of_eq (hidT_size _ _), trivial, fun b hb => (List.not_mem_nil hb).elim, hok, .of_eq gE⟩
    have run := (F _ inB (ns' gN)).run callerA [] t H ⟨[.ref a], []⟩ [.ref a] [.ref a] _ _ room rfl env (bind t (.ref a)) (.cons rfl .nil) (hsp H hS)
    refine codeAny_mono run fun r s' h => ?_
    match r, h with
    | .ok (.ret u), h =>
      obtain ⟨v, H', os, bare, un, hok', rel, q⟩ := h
      cases (show v = V.bl true from q)
      obtain rfl : u = Value.bool true := rel
      refine ⟨rfl, OldK.of_keep fun b o g => ?_, os, bare⟩
      by_cases z : H b = none
      · exact un.keep b o g z (fun c => (List.not_mem_nil c).elim) (fun c => (List.not_mem_nil c).elim)
      · obtain ⟨rfl, _, ob, xs, z2⟩ := hH b z
        have z3 := un.frzs b ob _ z2
        obtain ⟨g1, _⟩ := hok b _ z2
        obtain ⟨g2, _⟩ := hok' b _ z3
        rw [g] at g1
        cases g1
        exact g2
  have rel := vals_ints hi
  have lenV := hi.length
  by_cases hk : K.lookup a = none
  · refine go (fun b => if b = a then some (.frz { cls := .type "list", data := .seq vs.toArray } (.lst (ns.map V.int))) else none) (fun b z => ?_) (Or.inl (Or.inr ⟨_, if_pos rfl⟩)) (fun b u z => ?_)
    · have e : b = a := by
        by_cases e : b = a
        · exact e
        · exact (z (if_neg e)).elim
      exact ⟨e, hk, _, _, if_pos rfl⟩
    · by_cases e : b = a
      · have z' := (if_pos e).symm.trans z
        cases z'
        subst e
        exact ⟨hobj, by rw [List.length_map]; exact hl, vs, _, rel, hobj⟩
      · have z' := (if_neg e).symm.trans z
        cases z'
  · obtain ⟨o, ho⟩ := Option.ne_none_iff_exists'.mp hk
    have g := inK a o ho
    rw [hobj] at g
    cases g
    refine go (fun _ => none) (fun b z => (z rfl).elim) (Or.inr ⟨_, vs.toArray, _, ho, rfl, rfl, rfl, by rw [List.size_toArray, lenV]; exact hl, by simpa using rel⟩) (fun b u z => ?_)
    cases (show (none : Option HO) = some u from z)
end
theorem walkG {l : PySem.W.OpenLaw} {n k : Nat} {q : Program} {loose : List Str} {XP : (Str → Option Value) → Heap → Prop} {YP : World → Heap → Prop} {d : DefRec} {x : Str}
    (hn : l.most = some n) (hn2 : n ≤ sizeLine) (hdf : d.params.defaults = []) (room : Room k callerA)
    (F : ∀ (w : World) (mg : Str → Option Value) (fa : Addr) (h : Heap), YP w h → h.Ns mainGlobals mg → mg d.name = some (.ref fa) →
      ∃ (K : PySem.W.Frag) (fd : FuncData) (sp : Sp), K.In h ∧ (∀ (s : Shared) (u : Value), BindsTo s fd ⟨[u], []⟩ [(x, u)]) ∧
        (∀ (H : Hp) (a : Addr) (ns : List Int), ns.length ≤ n → SqL K H a (ns.map V.int) → sp [.ref a] H (fun v _ => v = .bl true) fun _ _ _ => False) ∧
        ∀ base : Heap, K.In base → base.Ns mainGlobals mg → FnG l.prog w K mg base CX0 k fa fd [x] sp) :
    PySem.W.WalkO q loose XP YP l.row.toRowW d [] (fun f vs => PySem.call f vs) := by
  refine Att.attach_call hn hdf fun w s0 s1 mg mb fa o pm cd doc a vs ns G Y _ _ _ hmg hobj hints hlen hg => ?_
  obtain ⟨K, fd, sp, inK, hb, hsp, hF⟩ := F w mg fa _ Y G.T.g hmg
  exact lawG_call inK G.T.g G.T.b G.T.builtins G.T.nolimit hg hobj hints (Nat.le_trans hlen hn2) room hF hb fun H hS => hsp H a ns hlen hS
/-! ### repr of a list of ints -/
def reprInts (ns : List Int) : Str := (PyData.list (ns.map PyData.int)).shown
section
variable {X : Cx}
theorem reads_ints {h : Heap} : ∀ {ns : List Int} {its : List Value}, Vals (ns.map V.int) its → ReadsAll h its (ns.map PyData.int) []
  | [], _, .nil => .nil
  | n :: ns, _, .cons ⟨t, e⟩ r => by
    subst e
    exact .cons (.int n t) (reads_ints r)
theorem showable_ints : ∀ {ns : List Int}, (∀ n ∈ ns, n.natAbs.log2 < 1920) → PyData.showableAll (ns.map PyData.int) = true
  | [], _ => rfl
  | n :: ns, h => by
    show (decide (n.natAbs.log2 < 1920) && PyData.showableAll (ns.map PyData.int)) = true
    rw [decide_eq_true (h n List.mem_cons_self), showable_ints fun m hm => h m (List.mem_cons_of_mem _ hm)]
    rfl
def rReprL (K : PySem.W.Frag) : List V → Hp → VK → Prop := fun xs H Q => ∃ p ns, xs = [.ref p] ∧ H p = some (.lst (ns.map V.int)) ∧ (∀ n ∈ ns, n.natAbs.log2 < 1920) ∧ (reprInts ns).length ≤ sizeLine ∧ Q (.str (reprInts ns)) H
theorem depth_ints : ∀ ns : List Int, PyData.depthAll (ns.map PyData.int) ≤ 1
  | [] => by decide
  | n :: ns => by
    have h := depth_ints ns
    simp only [List.map_cons, PyData.depthAll, PyData.depth]
    omega
theorem noDict_ints : ∀ ns : List Int, PyData.hasDictAll (ns.map PyData.int) = false
  | [] => rfl
  | n :: ns => by
    have h := noDict_ints ns
    simp only [List.map_cons, PyData.hasDictAll, PyData.hasDict, h, Bool.or_self]
theorem cr_reprL {k : Nat} (hg : X.A.guards = some []) (hr : Room k X.A) : CallR X (.builtin "repr") (rReprL X.K) := by
  intro pins s σ H xs us Q I r h
  obtain ⟨p, ns, rfl, hp, hb, hz, q⟩ := h
  obtain ⟨u, rfl, ru⟩ := vals1 r
  cases (show u = Value.ref p from ru)
  obtain ⟨its, rv, pl, _⟩ := I.list (SqL.of hp)
  obtain ⟨o, n0, ho, hc, _, hd⟩ := pl
  have hd1 := depth_ints ns
  have hu := hr.units
  refine repr_of_reads' (d := .list (ns.map PyData.int)) (.list ho hc hd (by simpa using reads_ints rv)) (showable_ints hb) (fun c => by simp [PyData.hasDict, noDict_ints] at c) hg (by simp only [PyData.depth]; omega) (fun b o z => z) (fun h' u tk hk => ?_) hz
  exact ⟨.str _, H, I.kept hk, ⟨u, rfl⟩, q⟩
end
end My

set_option Elab.async false
set_option linter.all false
set_option maxRecDepth 100000
set_option maxHeartbeats 4000000
namespace My
open PySem PySem.Spec PyProof.Rows L2 Evl
section
variable {X : Cx}
theorem pip_of {op : Operator} {r : R2} (h : OpR X (inplaceOp op) r) : PIp X op r := fun pins s σ H x y v u Q I r1 r2 hh => h pins s σ H x y v u Q I r1 r2 hh
def rIsqrt : List V → Hp → VK → Prop := fun xs H Q => ∃ n : Nat, xs = [.int (n : Int)] ∧ n < 2 ^ 4000 ∧ Q (.int (Float64.isqrt n : Nat)) H
theorem cr_isqrt : CallR X (.builtin "math.isqrt") rIsqrt := by
  intro pins s σ H xs us Q I r h
  obtain ⟨n, rfl, hn, q⟩ := h
  obtain ⟨u, rfl, t, rfl⟩ := vals1 r
  have hl : ((n : Nat) : Int).toNat.log2 ≤ 3999 := by
    rw [Int.toNat_natCast]
    by_cases z : n = 0
    · subst z; decide
    · exact Nat.le_of_lt_succ ((Nat.log2_lt z).mpr hn)
  have g := PySem.W.mg_run_isqrt (n : Int) t (by omega) (by omega) (by omega)
  exact call_function_meets PySem.W.MGF.kind_isqrt PySem.W.MGF.plain_isqrt PySem.W.MGF.entry_isqrt (PySem.W.MGF.args_isqrt _) g.meets ⟨.int _, H, I.tok _, ⟨_, by rw [Int.toNat_natCast]⟩, q⟩
end
section
variable {K : PySem.W.Frag} {σ : L2.St} {H : Hp} {ta tb te : TE} {x y z v : V} {D : Ends} {tu tz : TS}
theorem ev_isqrt {n : Nat} (h : Ev te σ H (.int (n : Int))) (hn : n < 2 ^ 4000) : Ev (tCB rIsqrt (tCons te tNil)) σ H (.int (Float64.isqrt n : Nat)) := fun H1 e Q q => h H1 e _ fun H2 e2 => ⟨n, rfl, hn, q H2 e2⟩
theorem q_augR {i : Nat} {r : R2} {a : V} (hx : σ[i]? = some (some a)) (h : Ev te σ H y) (hr : RV r a y H z) (k : ∀ H1, Ex H H1 → tz D (σ.set i (some z)) H1) : tSeq (tAug i te r) tz D σ H :=
  ⟨a, hx, h H (Ex.refl H) _ fun H1 e => hr H1 e _ fun H2 e2 => k H2 (e.trans e2)⟩
theorem s_augR {i : Nat} {r : R2} {a : V} (hx : σ[i]? = some (some a)) (h : Ev te σ H y) (hr : RV r a y H z) (k : ∀ H1, Ex H H1 → D.nx (σ.set i (some z)) H1) : tAug i te r D σ H :=
  ⟨a, hx, h H (Ex.refl H) _ fun H1 e => hr H1 e _ fun H2 e2 => k H2 (e.trans e2)⟩
theorem ev_sum {ns : List Int} (h : EvL te σ H (ns.map V.int)) : Ev (tCB (rSum K) (tCons te tNil)) σ H (.int ns.sum) := fun H1 e Q q => h H1 e _ fun p H2 _ e2 h2 => ⟨p, ns, rfl, sq_of h2, q H2 e2⟩
theorem ev_reprL {ns : List Int} (h : EvL te σ H (ns.map V.int)) (hb : ∀ n ∈ ns, n.natAbs.log2 < 1920) (hz : (reprInts ns).length ≤ sizeLine) : Ev (tCB (rReprL K) (tCons te tNil)) σ H (.str (reprInts ns)) := fun H1 e Q q => h H1 e _ fun p H2 _ e2 h2 => ⟨p, ns, rfl, h2, hb, hz, q H2 e2⟩
theorem wmul {i j : Int} (hi : i.natAbs < 2 ^ 1000) (hj : j.natAbs < 2 ^ 1000) : CMulW i j := wide_mul hi hj (by decide) (by decide) (by decide)
end
end My

set_option Elab.async false
set_option linter.all false
set_option maxRecDepth 100000
set_option maxHeartbeats 4000000
namespace My
open PySem PySem.Spec PyProof.Rows L2 Evl
structure TT (mg : Str → Option Value) : Prop where
  len : mg "len" = none
  int_ : mg "int" = none
  bool_ : mg "bool" = none
  str_ : mg "str" = none
  list_ : mg "list" = none
  tuple_ : mg "tuple" = none
  range : mg "range" = none
  max : mg "max" = none
  min : mg "min" = none
  sum : mg "sum" = none
  isinstance : mg "isinstance" = none
  sorted : mg "sorted" = none
  repr : mg "repr" = none
  abs : mg "abs" = none
  enumerate : mg "enumerate" = none
/-- a loop over a text's signs -/
theorem for_str {x : Str} {g : TG} {tb : TS} {D : Ends} {σ : L2.St} {H : Hp} (Pv : Nat → L2.St → Hp → Prop) (h0 : Pv 0 σ H)
    (hs : ∀ i c σ H, x.cps[i]? = some c → Pv i σ H → g (.str ⟨#[c]⟩) σ H fun σ2 H2 => tb { D with nx := Pv (i + 1), ct := Pv (i + 1), bk := D.nx } σ2 H2) (hd : ∀ σ H, Pv x.cps.size σ H → D.nx σ H) :
    ∃ W : Nat → Nat → L2.St → Hp → Prop, (∃ m, W 0 m σ H) ∧ ∀ i m σ H, W i m σ H →
      ((Its x).stop i H ∧ D.nx σ H) ∨ ((Its x).go i H ∧ ∃ N : L2.St → Hp → Prop, (∀ σ' H', N σ' H' → ∃ m', m' < m ∧ W (i + 1) m' σ' H') ∧ ∀ y H', (Its x).yld i H y H' → g y σ H' fun σ2 H2 => tb { D with nx := N, ct := N, bk := D.nx } σ2 H2) := by
  refine ⟨fun i m σ H => m = x.cps.size - i ∧ i ≤ x.cps.size ∧ Pv i σ H, ⟨x.cps.size, by simp, Nat.zero_le _, h0⟩, ?_⟩
  rintro i m σ H ⟨rfl, hi, p⟩
  by_cases hlt : i < x.cps.size
  · refine .inr ⟨hlt, Pv (i + 1), fun σ' H' p' => ⟨x.cps.size - (i + 1), by omega, rfl, hlt, p'⟩, fun y H' z => ?_⟩
    obtain ⟨e, c, hc, rfl⟩ := z
    subst e
    exact hs i c σ _ hc p
  · have e : i = x.cps.size := by omega
    subst e
    exact .inl ⟨Nat.le_refl _, hd σ H p⟩
theorem q_forS {x : Str} {tl : TE} {g : TG} {D : Ends} {σ : L2.St} {H : Hp} {tu tz : TS} (h : Ev tl σ H (.str x)) (Pv : Nat → L2.St → Hp → Prop) (h0 : ∀ H1, Ex H H1 → Pv 0 σ H1)
    (hs : ∀ i c σ' H', x.cps[i]? = some c → Pv i σ' H' → g (.str ⟨#[c]⟩) σ' H' fun σ2 H2 => tu { D with nx := Pv (i + 1), ct := Pv (i + 1), bk := tz D } σ2 H2) (hd : ∀ σ' H', Pv x.cps.size σ' H' → tz D σ' H') : tSeq (tFor (iStr tl) g tu) tz D σ H :=
  h H (Ex.refl H) _ fun H1 e => ⟨x, rfl, for_str (D := { D with nx := tz D }) Pv (h0 H1 e) hs hd⟩
theorem vals_rev {zs : List V} {ws : List Value} (r : Vals zs ws) : Vals zs.reverse ws.reverse := by
  induction r with
  | nil => exact .nil
  | cons a r ih => rw [List.reverse_cons, List.reverse_cons]; exact ih.append (.cons a .nil)
/-! ### lists of ints in the heap -/
theorem get_map {ns : List Int} {i : Nat} {x : V} (h : (ns.map V.int)[i]? = some x) : ∃ z, ns[i]? = some z ∧ x = .int z := by
  rw [List.getElem?_map] at h
  cases e : ns[i]? with
  | none => rw [e] at h; cases h
  | some z => rw [e] at h; exact ⟨z, rfl, (Option.some.inj h).symm⟩
theorem drop_get {α : Type} {l : List α} {i : Nat} {x : α} (h : l[i]? = some x) : l.drop i = x :: l.drop (i + 1) := by
  obtain ⟨hi, e⟩ := List.getElem?_eq_some_iff.mp h
  rw [List.drop_eq_getElem_cons hi, e]
theorem at_map {ns : List Int} {i : Int} {z : Int} (h0 : 0 ≤ i) (h : ns[i.toNat]? = some z) : atI (ns.map V.int) i = some (.int z) := by
  have hi : i.toNat < ns.length := (List.getElem?_eq_some_iff.mp h).1
  have e : ixN (ns.map V.int).length i = some i.toNat := by
    unfold ixN
    rw [List.length_map, if_pos h0, if_pos (by omega)]
  unfold atI
  rw [e]
  show (ns.map V.int)[i.toNat]? = _
  rw [List.getElem?_map, h]
  rfl
/-! ### a cell -/
def seedF (ns : List Int) : Int := ns.foldl (fun s c => (s * 31 + c % 1000003) % 1000003) 17
def cellF (ns : List Int) (k : Int) : Int := if k < (ns.length : Int) then ns.getD k.toNat 0 else ((seedF ns + 7) * (k + 3) * 69621) % 2147483647
/-! ### digits -/
def digA : Int → List Int → List Int
  | _, [] => []
  | r, s :: ss => r % s :: digA (r / s) ss
def digB : Int → Int → List Int → List Int
  | _, _, [] => []
  | seed, k, s :: ss =>
    let seed' := (seed * 48271 + 974711 * k + 12345) % 2147483647
    let twice := (seed' * (seed' / 65537 + 3)) % 2147483629
    (twice / 19 % s) :: digB seed' (k + 1) ss
def digitsF (c : Int) (ss : List Int) : List Int := if 1000000000000000000 ≤ c then digA (c - 1000000000000000000) ss else digB (c % 2147483629) 0 ss
theorem digA_len : ∀ (r : Int) (ss : List Int), (digA r ss).length = ss.length
  | _, [] => rfl
  | r, s :: ss => by simp [digA, digA_len]
theorem digB_len : ∀ (r k : Int) (ss : List Int), (digB r k ss).length = ss.length
  | _, _, [] => rfl
  | r, k, s :: ss => by simp [digB, digB_len]
theorem digits_len (c : Int) (ss : List Int) : (digitsF c ss).length = ss.length := by
  unfold digitsF; split
  · exact digA_len _ _
  · exact digB_len _ _ _
/-- each digit is from 0 to its size, without it -/
def Within : List Int → List Int → Prop
  | [], [] => True
  | d :: ds, s :: ss => (0 ≤ d ∧ d < s) ∧ Within ds ss
  | _, _ => False
theorem digA_in : ∀ (r : Int) (ss : List Int), (∀ s ∈ ss, 0 < s) → Within (digA r ss) ss
  | _, [], _ => trivial
  | r, s :: ss, h => ⟨⟨Int.emod_nonneg _ (by have := h s List.mem_cons_self; omega), Int.emod_lt_of_pos _ (h s List.mem_cons_self)⟩, digA_in _ ss fun z hz => h z (List.mem_cons_of_mem _ hz)⟩
theorem digB_in : ∀ (r k : Int) (ss : List Int), (∀ s ∈ ss, 0 < s) → Within (digB r k ss) ss
  | _, _, [], _ => trivial
  | r, k, s :: ss, h => ⟨⟨Int.emod_nonneg _ (by have := h s List.mem_cons_self; omega), Int.emod_lt_of_pos _ (h s List.mem_cons_self)⟩, digB_in _ _ ss fun z hz => h z (List.mem_cons_of_mem _ hz)⟩
theorem digits_in (c : Int) (ss : List Int) (h : ∀ s ∈ ss, 0 < s) : Within (digitsF c ss) ss := by
  unfold digitsF; split
  · exact digA_in _ _ h
  · exact digB_in _ _ _ h
theorem et_yes {σ : L2.St} {H : Hp} : EvT tYes σ H true := fun H1 _ Q q => q H1 (Ex.refl H1)
theorem Within.get : ∀ {ds ss : List Int}, Within ds ss → ∀ i, i < ss.length → 0 ≤ ds.getD i 0 ∧ ds.getD i 0 < ss.getD i 0
  | [], [], _, i, h => absurd h (Nat.not_lt_zero i)
  | d :: ds, s :: ss, h, 0, _ => h.1
  | d :: ds, s :: ss, h, i + 1, hi => h.2.get i (by simpa using hi)
  | [], _ :: _, h, _, _ => h.elim
  | _ :: _, [], h, _, _ => h.elim
theorem Within.len : ∀ {ds ss : List Int}, Within ds ss → ds.length = ss.length
  | [], [], _ => rfl
  | _ :: _, _ :: _, h => congrArg Nat.succ h.2.len
  | [], _ :: _, h => h.elim
  | _ :: _, [], h => h.elim
theorem at_d {rs : List Int} {i : Nat} (h : i < rs.length) : atI (rs.map V.int) (i : Int) = some (.int (rs.getD i 0)) := at_map (by omega) (by
  rw [Int.toNat_natCast, List.getD_eq_getElem?_getD, List.getElem?_eq_getElem h]; rfl)
theorem pow_mono (b : Nat) (hb : 1 ≤ b) {i j : Nat} (h : i ≤ j) : ((b : Int)) ^ i ≤ (b : Int) ^ j := by
  have := Nat.pow_le_pow_right hb h
  have h2 : ((b ^ i : Nat) : Int) ≤ ((b ^ j : Nat) : Int) := Int.ofNat_le.mpr this
  rwa [Int.natCast_pow, Int.natCast_pow] at h2
theorem flat_ints (ns : List Int) : (ns.map V.int).all flatV = true := by
  rw [List.all_eq_true]
  intro x hx
  obtain ⟨z, _, rfl⟩ := List.mem_map.mp hx
  rfl
theorem in_ints (z : Int) (ns : List Int) : inV (.int z) (ns.map V.int) = decide (z ∈ ns) := by
  unfold inV
  induction ns with
  | nil => simp
  | cons a ns ih =>
    rw [List.map_cons, List.any_cons, ih]
    have : eqV (.int a) (.int z) = (a == z) := rfl
    rw [this]
    by_cases h : a = z
    · subst h; simp
    · have h2 : ¬ z = a := fun e => h e.symm
      simp [h, h2]
theorem given_map {α : Type} (xs : List α) (d : α) (g : α → V) (v : Nat → V) (h : ∀ i, i < xs.length → v i = g (xs.getD i d)) : given xs.length (fun _ => true) v = xs.map g := by
  unfold given
  rw [List.filter_eq_self.mpr (fun _ _ => rfl)]
  refine List.ext_getElem (by simp) fun i h1 h2 => ?_
  rw [List.getElem_map, List.getElem_map, List.getElem_range]
  rw [List.length_map] at h2
  rw [h i h2, List.getD_eq_getElem?_getD, List.getElem?_eq_getElem h2]
  rfl
/-- a call whose answer is one of several -/
theorem q_call {σ : L2.St} {H : Hp} {i : Nat} {sp : Sp} {dvs vs : List V} {E : XK} {ta : TA} {D : Ends} {tz : TS} (h : EvA ta σ H vs) (hs : ∀ H1, Ex H H1 → sp (vs ++ dvs) H1 (fun x H2 => tz D (σ.set i (some x)) H2) E) : tSeq (tAsg (tCall sp dvs E ta) (gName i)) tz D σ H :=
  h H (Ex.refl H) _ fun H1 e1 => hs H1 e1
/-- [x] * n -/
theorem el_rep {σ : L2.St} {H : Hp} {ta tb : TE} {xs : List V} {k : Int} (ha : EvL ta σ H xs) (hb : ∀ H1, Ex H H1 → Ev tb σ H1 (.int k)) (h0 : 0 ≤ k) (h1 : xs.length * k.toNat ≤ 100000) (h2 : k < 2 ^ 63) : EvL (tOp rRep ta tb) σ H (List.replicate k.toNat xs).flatten := fun H1 e Q q =>
  ha H1 e _ fun p H2 hp e2 h2' => hb H2 (e.trans e2) H2 (Ex.refl H2) _ fun H3 e3 => ⟨p, k, xs, rfl, rfl, e3 p _ h2', by omega, h2, sz_of h1, fun l hl => q l _ (fresh_back (e2.trans e3) hl) ((e2.trans e3).trans (Ex.new hl)) upd_same⟩
/-- a call with a new list as its second argument, its answer a new list -/
theorem q_call2L {σ : L2.St} {H : Hp} {i : Nat} {x : V} {xs ys : List V} {sp : Sp} {E : XK} {ta tb : TE} {D : Ends} {tz : TS} (ha : Ev ta σ H x) (hb : EvL tb σ H xs) (hs : ∀ p H1, H1 p = some (.lst xs) → Ex H H1 → SpL sp [x, .ref p] H1 ys)
    (k : ∀ p H1, H p = none → Ex H H1 → H1 p = some (.lst ys) → tz D (σ.set i (some (.ref p))) H1) : tSeq (tAsg (tCall sp [] E (tCons ta (tCons tb tNil))) (gName i)) tz D σ H :=
  ha H (Ex.refl H) _ fun H1 e1 => hb H1 e1 _ fun p H2 hp e2 h2 => hs p H2 h2 (e1.trans e2) H2 (Ex.refl H2) _ (fun r H3 hr e3 h3 => k r H3 (fresh_back (e1.trans e2) hr) ((e1.trans e2).trans e3) h3) E
theorem ev_callL2 {σ : L2.St} {H : Hp} {x z : V} {xs : List V} {sp : Sp} {E : XK} {ta tb : TE} (ha : Ev ta σ H x) (hb : EvL tb σ H xs) (hs : ∀ p H1, H1 p = some (.lst xs) → Ex H H1 → SpV sp [x, .ref p] H1 z) : Ev (tCall sp [] E (tCons ta (tCons tb tNil))) σ H z := fun H0 e0 Q q =>
  ha H0 e0 _ fun H1 e1 => hb H1 (e0.trans e1) _ fun p H2 hp e2 h2 => hs p H2 h2 ((e0.trans e1).trans e2) H2 (Ex.refl H2) Q (fun H3 e3 => q H3 ((e1.trans e2).trans e3)) E
theorem ev_callL1 {σ : L2.St} {H : Hp} {y z : V} {xs : List V} {sp : Sp} {E : XK} {ta tb : TE} (ha : EvL ta σ H xs) (hb : ∀ H1, Ex H H1 → Ev tb σ H1 y) (hs : ∀ p H1, H1 p = some (.lst xs) → Ex H H1 → SpV sp [.ref p, y] H1 z) : Ev (tCall sp [] E (tCons ta (tCons tb tNil))) σ H z := fun H0 e0 Q q =>
  ha H0 e0 _ fun p H1 hp e1 h1 => hb H1 (e0.trans e1) H1 (Ex.refl H1) _ fun H2 e2 => hs p H2 (e2 p _ h1) ((e0.trans e1).trans e2) H2 (Ex.refl H2) Q (fun H3 e3 => q H3 ((e1.trans e2).trans e3)) E
theorem ea_consNL {σ : L2.St} {H : Hp} {te : TE} {xs : List V} (h : EvL te σ H xs) (Q : List V → Hp → Prop) (q : ∀ p H2, H p = none → Ex H H2 → H2 p = some (.lst xs) → Q [.ref p] H2) : tCons te tNil σ H Q := h H (Ex.refl H) _ fun p H2 hp e h2 => q p H2 hp e h2
theorem kit_int_int {K : PySem.W.Frag} : PySem.W.kitOne K (.type "int") (.type "int") = some true := by rfl
theorem kit_int_bool {K : PySem.W.Frag} : PySem.W.kitOne K (.type "int") (.type "bool") = some false := by rfl
theorem kit_str_str {K : PySem.W.Frag} : PySem.W.kitOne K (.type "str") (.type "str") = some true := by rfl
def OkSizes (ss : List Int) : Prop := ss.length ≤ 10000 ∧ ∀ s ∈ ss, 0 < s ∧ s < 2 ^ 64
theorem divw {i j : Int} (h0 : 0 < j) (h : j < 2 ^ 64) : CDivW i j := wide_div (b := 64) h0 (by omega) (by decide) (by decide)
def spWhole : Sp := fun vs H Q _ => ∃ m : Int, vs = [.int m] ∧ RetV (.bl true) H Q
theorem sv_whole {m : Int} {H : Hp} : SpV spWhole [.int m] H (.bl true) := fun H1 _ Q q _ => ⟨m, rfl, q⟩
section
variable {K : PySem.W.Frag}
def spCellF (K : PySem.W.Frag) : Sp := fun vs H Q _ => ∃ (a : Addr) (ns : List Int) (k : Int), vs = [.ref a, .int k] ∧ SqL K H a (ns.map V.int) ∧ 0 ≤ k ∧ k ≤ 1000000 ∧ RetV (.int (cellF ns k)) H Q
theorem sv_cell {a : Addr} {ns : List Int} {k : Int} {H : Hp} (hS : SqL K H a (ns.map V.int)) (h0 : 0 ≤ k) (h1 : k ≤ 1000000) : SpV (spCellF K) [.ref a, .int k] H (.int (cellF ns k)) := fun H1 e Q q _ => ⟨a, ns, k, rfl, ex_l e hS, h0, h1, q⟩
def spDigits (K : PySem.W.Frag) : Sp := fun vs H Q _ => ∃ (c : Int) (b : Addr) (ss : List Int), vs = [.int c, .ref b] ∧ SqL K H b (ss.map V.int) ∧ OkSizes ss ∧ RetL ((digitsF c ss).map V.int) H Q
theorem sl_digits {c : Int} {b : Addr} {ss : List Int} {H : Hp} (hS : SqL K H b (ss.map V.int)) (ok : OkSizes ss) : SpL (spDigits K) [.int c, .ref b] H ((digitsF c ss).map V.int) := fun H1 e Q q _ => ⟨c, b, ss, rfl, ex_l e hS, ok, fun p H2 hp e2 h2 => q p H2 hp e2 h2⟩
theorem pos_of {ss : List Int} (h : OkSizes ss) : ∀ s ∈ ss, 0 < s := fun s hs => (h.2 s hs).1
end
end My

set_option Elab.async false
set_option linter.all false
set_option maxRecDepth 100000
set_option maxHeartbeats 4000000
namespace My
open PySem PySem.Spec PyProof.Rows L2 Evl
/-! ### enumerate(tuple), enumerate(text) -/
theorem meets_enum1 {v : Value} {o : Obj} {H : Heap → Prop} (B : Begins v o H) :
    Meets (Builtin.«enumerate.__new__» ⟨[.type "enumerate", v], []⟩) (fun _ R s => H s.heap ∧
      R (.ok (.ret (.ref (s.heap.push o).objs.size))) { s with heap := (s.heap.push o).push { cls := .type "enumerate", data := .fields #[.none, .bool false, .ref s.heap.objs.size, rawInt 0, .none, .none] } }) :=
  .of_wp fun prog w A R s h => by
    obtain ⟨hp, g, d, tk, os⟩ := s; obtain ⟨h1, h⟩ := h
    have hsub := sub_enumerate
    have q1 : ∀ {A' : Around} {E : Value → Shared → Prop} {Q : Value → Shared → Prop}, Q (.ref hp.objs.size) ⟨hp.push o, g, d, tk, os⟩ → wpAny (model prog w) A' (pyIter v) Q E ⟨hp, g, d, tk, os⟩ :=
      fun q => B.iter prog w _ _ ⟨hp, g, d, tk, os⟩ _ h1 q
    wp_walk using q1
    refine wpAny_stack_any fun st => wpAny_pure ?_
    split
    · rename_i c _ _ _ _ _
      cases (c == Value.type "enumerate")
      · wp_walk using q1
        exact ⟨_, rfl, h⟩
      · wp_walk using q1
        exact ⟨_, rfl, h⟩
    · wp_walk using q1
      exact ⟨_, rfl, h⟩
theorem enum_one {prog : Program} {w : World} {A : Around} {E : Value → Shared → Prop} {s : Shared} {v : Value} {o : Obj} {H : Heap → Prop} {Q : Value → Shared → Prop} (B : Begins v o H) (h1 : H s.heap)
    (h : ∀ h', IsEnum h' (s.heap.objs.size + 1) s.heap.objs.size 0 .none → h'.get? s.heap.objs.size = some o → h'.objs.size = s.heap.objs.size + 2 →
      (∀ b o, s.heap.get? b = some o → h'.get? b = some o) → Q (.ref (s.heap.objs.size + 1)) { s with heap := h' }) :
    wpAny (model prog w) A (call (.type "enumerate") [v]) Q E s := by
  refine callType_new F.called_enumerate (by decide) (F.typeCall_enumerate_1 _) (F.newCall_enumerate_1 _) (fun obj => F.args_object_init_2 obj _) F.entry_enumerate_new
    (meets_enum1 B) ⟨h1, ?_⟩
  have hz : (s.heap.push o).objs.size = s.heap.objs.size + 1 := Heap.size_push ..
  show _ ∧ _
  rw [hz]
  have he : IsEnum ((s.heap.push o).push { cls := .type "enumerate", data := .fields #[.none, .bool false, .ref s.heap.objs.size, rawInt 0, .none, .none] }) (s.heap.objs.size + 1) s.heap.objs.size 0 .none := by
    have := Heap.get?_push_size (s.heap.push o) (o := { cls := .type "enumerate", data := .fields #[.none, .bool false, .ref s.heap.objs.size, rawInt 0, .none, .none] }) rfl
    rw [hz] at this; exact this
  refine ⟨⟨_, he, rfl⟩, h _ he (Heap.get?_push_of_some _ (Heap.get?_push_size _ B.free)) (by rw [Heap.size_push, hz]) fun b o x => Heap.get?_push_of_some _ (Heap.get?_push_of_some _ x)⟩
theorem enum_endT {prog : Program} {w : World} {A : Around} {E : Value → Shared → Prop} {s : Shared} {e it l : Addr} {i : Nat} {items : Array Value} {old : Value} {Q : Option Value → Shared → Prop} (hh : A.handled = none)
    (he : IsEnum s.heap e it i old) (hit : s.heap.IsTupleIter it l i) (hl : s.heap.IsTuple l items) (hx : items[i]? = none)
    (hQ : ∀ h', Heap.ExtBut it s.heap h' → Q none { s with heap := h' }) : wpAny (model prog w) A (pyNext (.ref e)) Q E s := by
  have hT : s.TypeIs (.ref e) "enumerate" := ⟨_, he, rfl⟩
  unfold pyNext
  refine wpAny_bind (wpAny_attempt (wpAny_callSpecial?_slot (name := Str.ofString "__next__") hT F.slot_enumerate_next
    (wpAny_call_entry F.slot_enumerate_next hT F.entry_enumerate_next ?_ (F.args_enumerate_next_1 _))))
  show wpAny _ _ (field (.ref e) 2 >>= _) _ _ _
  refine wpAny_bind (wpAny_field he rfl (x := .ref it) rfl ?_)
  refine wpAny_bind (wpAny_nextOf_tuple_end hh hit hl hx fun h' x he' hx' => ?_)
  obtain ⟨o, ho, hc⟩ := hx'
  refine wpAny_bind (wpAny_isInstance (T := "StopIteration") (b := true) ⟨o, ho, hc⟩ isSubtype_stop ?_)
  exact wpAny_pure (hQ _ he')
/-- the tuple at a -/
def IteT (K : PySem.W.Frag) (a : Addr) : It :=
  ⟨fun i H => ∃ (xs : List V) (x : V), SqT K H a xs ∧ xs[i]? = some x, fun i H v H' => ∃ T x, v = .ref T ∧ H T = none ∧ H' = upd H T (.tup [.int (i : Nat), x]) ∧ ∀ xs, SqT K H a xs → xs[i]? = some x, fun i H => ∃ xs : List V, SqT K H a xs ∧ xs.length ≤ i⟩
/-- the text x -/
def IteS (x : Str) : It :=
  ⟨fun i _ => i < x.cps.size, fun i H v H' => ∃ T c, v = .ref T ∧ H T = none ∧ H' = upd H T (.tup [.int (i : Nat), .str ⟨#[c]⟩]) ∧ x.cps[i]? = some c, fun i _ => x.cps.size ≤ i⟩
theorem turn_enumT {P : Program} {w : World} {K : PySem.W.Frag} {elts : List Expr} {kk : Nat} {tpos : Pos} (a e it : Addr) :
    Turn P w K (.Tuple elts kk tpos) (IteT K a) [e, it] e (fun i h => (∃ old, IsEnum h e it ((i : Nat) : Int) old) ∧ h.IsTupleIter it a i ∧ e ≠ it ∧ e ≠ a ∧ a ≠ it) where
  mem := by simp
  obj := fun i h st b hb => by
    obtain ⟨⟨old, he⟩, ⟨o, ho, hc, hd⟩, _⟩ := st
    have e' : b = e ∨ b = it := by simpa using hb
    rcases e' with z | z
    · rw [z]; exact ⟨_, he, fun v q => nomatch q⟩
    · rw [z]; exact ⟨o, ho, fun v q => by rw [hd] at q; cases q⟩
  keep := fun i h h' st k => let ⟨⟨old, he⟩, hi, hne⟩ := st; ⟨⟨old, k e (by simp) _ he⟩, hi.at fun o q => k it (by simp) o q, hne⟩
  item := by
    intro X hP hw hK hc i pins s σ H E I hf st hg
    subst hP hw hK
    obtain ⟨⟨old, he⟩, hit, hne, hea, hai⟩ := st
    obtain ⟨xs, x, hq, hx⟩ := hg
    obtain ⟨its, rv, p, hz⟩ := I.tuple hq
    obtain ⟨u, hu, ru⟩ := rv.get hx
    have hel : e < s.heap.objs.size := Heap.lt_size he
    have hil : it < s.heap.objs.size := by obtain ⟨_, q, _⟩ := hit; exact Heap.lt_size q
    refine wpAny_pyNext_enum_itemD (Draws.tuple (A := X.A.in1) (I.ok.hd hc) it a hai its.toArray) he ⟨hit, p⟩ (by
      have := (List.getElem?_eq_some_iff.mp hu).1
      simpa using this) hne (by simp [hne, hea]) fun u' h' tk hu' ho hst' hT hsz hk => ?_
    have hu2 : u' = u := by
      have h1 : its[i]? = some u' := by simpa using hu'
      rw [hu] at h1
      exact (Option.some.inj h1).symm
    subst hu2
    refine ⟨_, rfl, wpAny_letOwnedTupleGo_enum (s := { s with heap := h', toks := tk + 1 }) ho fun h'' he' sb => ?_⟩
    have hT2 : h''.get? s.heap.objs.size = some { cls := .type "tuple", data := .seq #[.int i tk, u'] } := (sb.2 _ (Nat.ne_of_gt hel)).trans hT
    have new : ObjOk X.prog X.w (upd H s.heap.objs.size (.tup [.int (i : Nat), x])) h'' s.heap.objs.size (.tup [.int (i : Nat), x]) :=
      ⟨by show 2 ≤ sizeLine; decide, [.int i tk, u'], .cons ⟨_, rfl⟩ (.cons ru .nil), ⟨_, hT2, rfl, _, rfl⟩⟩
    have I1 : Inv X pins σ (upd H s.heap.objs.size (.tup [.int (i : Nat), x])) { s with heap := h'', toks := tk + 1 } :=
      I.turnedNew (ch := [e, it]) (fun b ob hb q => (sb.2 b (fun z => hb (by simp [z]))).trans (hk b ob (fun z => hb (by simp [z])) (fun z => hb (by simp [z])) q)) hf (Nat.le_refl _) new
    refine ⟨.ref s.heap.objs.size, _, I1, rfl, ⟨_, x, rfl, I.hok.fresh (Nat.le_refl _), rfl, fun ys hy => by
      obtain ⟨its2, rv2, p2, _⟩ := I.tuple hy
      have hq2 : ys = xs := I.tuple_inj hy hq
      rw [hq2]; exact hx⟩, ⟨⟨u', ?_⟩, hst'.1.at fun o q => (sb.2 it (Ne.symm hne)).trans q, hne, hea, hai⟩, fun b hb => ?_⟩
    · have e1 : ((i + 1 : Nat) : Int) = (i : Int) + 1 := by omega
      rw [e1]; exact he'
    · have hb' : b < s.heap.objs.size := by
        have e' : b = e ∨ b = it := by simpa using hb
        rcases e' with z | z
        · rw [z]; exact hel
        · rw [z]; exact hil
      rw [upd_ne (Nat.ne_of_lt hb')]
      exact (hf b hb).1
  done := by
    intro X hP hw hK hc i pins s σ H E I hf st hg
    subst hP hw hK
    obtain ⟨⟨old, he⟩, hit, hne, hea, hai⟩ := st
    obtain ⟨xs, hq, hx⟩ := hg
    obtain ⟨its, rv, p, hz⟩ := I.tuple hq
    obtain ⟨f0, f1, f2, f3, f4, f5⟩ := hf it (by simp)
    have hl := rv.length
    exact enum_endT (I.ok.hd hc) he hit p (by simp; omega) fun h' eb => ⟨rfl, I.turned (t' := s.toks) (fun b o hb q => eb b o hb q) f0 f1 f3 f4 f5⟩
  self := fun A i s Q E st h => let ⟨⟨_, he⟩, _⟩ := st; wpAny_pyIter_enum he h
theorem turn_enumS {P : Program} {w : World} {K : PySem.W.Frag} {elts : List Expr} {kk : Nat} {tpos : Pos} (z : Str) (t : Tok) (e it : Addr) :
    Turn P w K (.Tuple elts kk tpos) (IteS z) [e, it] e (fun i h => i ≤ z.cps.size ∧ (∃ old, IsEnum h e it ((i : Nat) : Int) old) ∧ h.IsStrIter it (strIterType z) z t i ∧ e ≠ it) where
  mem := by simp
  obj := fun i h st b hb => by
    obtain ⟨_, ⟨old, he⟩, ⟨o, ho, hc, hd⟩, _⟩ := st
    have e' : b = e ∨ b = it := by simpa using hb
    rcases e' with z | z
    · rw [z]; exact ⟨_, he, fun v q => nomatch q⟩
    · rw [z]; exact ⟨o, ho, fun v q => by rw [hd] at q; cases q⟩
  keep := fun i h h' st k => let ⟨hi0, ⟨old, he⟩, ⟨o, ho, r⟩, hne⟩ := st; ⟨hi0, ⟨old, k e (by simp) _ he⟩, ⟨o, k it (by simp) o ho, r⟩, hne⟩
  item := by
    intro X hP hw hK hc i pins s σ H E I hf st hg
    subst hP hw hK
    obtain ⟨hi0, ⟨old, he⟩, hit, hne⟩ := st
    have hgi : i < z.cps.size := hg
    have hel : e < s.heap.objs.size := Heap.lt_size he
    have hil : it < s.heap.objs.size := by obtain ⟨_, q, _⟩ := hit; exact Heap.lt_size q
    refine wpAny_pyNext_enum_itemD (Draws.text (A := X.A.in1) (I.ok.hd hc) it z t) he hit hgi hne (by simp [hne]) fun u' h' tk hu' ho hst' hT hsz hk => ?_
    obtain ⟨c, u, hcu, rfl⟩ := hu'
    refine ⟨_, rfl, wpAny_letOwnedTupleGo_enum (s := { s with heap := h', toks := tk + 1 }) ho fun h'' he' sb => ?_⟩
    have hT2 : h''.get? s.heap.objs.size = some { cls := .type "tuple", data := .seq #[.int i tk, .str ⟨#[c]⟩ u] } := (sb.2 _ (Nat.ne_of_gt hel)).trans hT
    have new : ObjOk X.prog X.w (upd H s.heap.objs.size (.tup [.int (i : Nat), .str ⟨#[c]⟩])) h'' s.heap.objs.size (.tup [.int (i : Nat), .str ⟨#[c]⟩]) :=
      ⟨by show 2 ≤ sizeLine; decide, [.int i tk, .str ⟨#[c]⟩ u], .cons ⟨_, rfl⟩ (.cons ⟨_, rfl⟩ .nil), ⟨_, hT2, rfl, _, rfl⟩⟩
    have I1 : Inv X pins σ (upd H s.heap.objs.size (.tup [.int (i : Nat), .str ⟨#[c]⟩])) { s with heap := h'', toks := tk + 1 } :=
      I.turnedNew (ch := [e, it]) (fun b ob hb q => (sb.2 b (fun z => hb (by simp [z]))).trans (hk b ob (fun z => hb (by simp [z])) (fun z => hb (by simp [z])) q)) hf (Nat.le_refl _) new
    refine ⟨.ref s.heap.objs.size, _, I1, rfl, ⟨_, c, rfl, I.hok.fresh (Nat.le_refl _), rfl, hcu⟩, ⟨hgi, ⟨.str ⟨#[c]⟩ u, ?_⟩, ?_, hne⟩, fun b hb => ?_⟩
    · have e1 : ((i + 1 : Nat) : Int) = (i : Int) + 1 := by omega
      rw [e1]; exact he'
    · obtain ⟨o, ho2, r⟩ := hst'
      exact ⟨o, (sb.2 it (Ne.symm hne)).trans ho2, r⟩
    · have hb' : b < s.heap.objs.size := by
        have e' : b = e ∨ b = it := by simpa using hb
        rcases e' with z | z
        · rw [z]; exact hel
        · rw [z]; exact hil
      rw [upd_ne (Nat.ne_of_lt hb')]
      exact (hf b hb).1
  done := by
    intro X hP hw hK hc i pins s σ H E I hf st hg
    subst hP hw hK
    obtain ⟨hi0, ⟨old, he⟩, hit, hne⟩ := st
    have hgi : z.cps.size ≤ i := hg
    have hi : i = z.cps.size := by omega
    subst hi
    obtain ⟨f0, f1, f2, f3, f4, f5⟩ := hf it (by simp)
    exact wpAny_pyNext_enum_endD (Draws.text (A := X.A.in1) (I.ok.hd hc) it z t) he hit fun h' eb => ⟨rfl, I.turned (t' := s.toks) (fun b o hb q => eb b o hb q) f0 f1 f3 f4 f5⟩
  self := fun A i s Q E st h => let ⟨_, ⟨_, he⟩, _⟩ := st; wpAny_pyIter_enum he h
def iEnumT (K : PySem.W.Frag) (ta : TA) : TI := fun σ H R => ta σ H fun vs H1 => ∃ a xs, vs = [.ref a] ∧ SqT K H1 a xs ∧ R (IteT K a) H1
def iEnumS (ta : TA) : TI := fun σ H R => ta σ H fun vs H1 => ∃ x, vs = [.str x] ∧ R (IteS x) H1
theorem pi_enumT {X : Cx} {e : Expr} {ta : TA} {p pos tpos : Pos} {elts : List Expr} {kk : Nat} (hg : Gl X "enumerate") (hm : X.mg "enumerate" = none) (ha : PA X [e] ta) (hs : starEach [e] X.env = [(false, eval e X.env)] := by rfl) :
    PI X (.Tuple elts kk tpos) (.Call (.Name "enumerate" p) [e] [] pos) (iEnumT X.K ta) := by
  refine ⟨fun pins s σ H R I h => ?_⟩
  refine Call_ (ld_blt I hg hm boot_enumerate (PyProof.Rows.callWith_type1 (thn (ha.run pos pins s σ H _ I h) fun us s1 ⟨vs, H1, I1, r1, q1⟩ => ?_) hs rfl))
  obtain ⟨a, xs, ex, hq, q⟩ := q1
  subst ex
  cases r1 with
  | cons r rr =>
    cases rr
    cases r
    obtain ⟨its, rv, p', hz⟩ := I1.tuple hq
    have hal : a < s1.heap.objs.size := by obtain ⟨_, q, _⟩ := id p'; exact Heap.lt_size q
    refine enum_one (begins_tuple a its.toArray) p' fun h' he hit hsz hk => wpAny_pyIter_enum he ?_
    have I2 : Inv X pins σ H1 { s1 with heap := h' } := I1.kept (t' := s1.toks) hk
    refine ⟨s1.heap.objs.size + 1, [s1.heap.objs.size + 1, s1.heap.objs.size], _, _, H1, rfl, I2, turn_enumT a (s1.heap.objs.size + 1) s1.heap.objs.size, ⟨⟨.none, he⟩, ⟨_, hit, rfl, rfl⟩, Nat.succ_ne_self _, Nat.ne_of_gt (Nat.lt_succ_of_lt hal), Nat.ne_of_lt hal⟩, fun b hb => ?_, q⟩
    have e' : b = s1.heap.objs.size + 1 ∨ b = s1.heap.objs.size := by simpa using hb
    have hle : s1.heap.objs.size ≤ b := by
      rcases e' with z | z
      · rw [z]; exact Nat.le_add_right _ _
      · rw [z]; exact Nat.le_refl _
    exact I1.fpOk hle (I1.hok.fresh hle)
theorem pi_enumS {X : Cx} {e : Expr} {ta : TA} {p pos tpos : Pos} {elts : List Expr} {kk : Nat} (hg : Gl X "enumerate") (hm : X.mg "enumerate" = none) (ha : PA X [e] ta) (hs : starEach [e] X.env = [(false, eval e X.env)] := by rfl) :
    PI X (.Tuple elts kk tpos) (.Call (.Name "enumerate" p) [e] [] pos) (iEnumS ta) := by
  refine ⟨fun pins s σ H R I h => ?_⟩
  refine Call_ (ld_blt I hg hm boot_enumerate (PyProof.Rows.callWith_type1 (thn (ha.run pos pins s σ H _ I h) fun us s1 ⟨vs, H1, I1, r1, q1⟩ => ?_) hs rfl))
  obtain ⟨x, ex, q⟩ := q1
  subst ex
  cases r1 with
  | cons r rr =>
    cases rr
    obtain ⟨t, rfl⟩ := r
    refine enum_one (begins_text x t) trivial fun h' he hit hsz hk => wpAny_pyIter_enum he ?_
    have I2 : Inv X pins σ H1 { s1 with heap := h' } := I1.kept (t' := s1.toks) hk
    refine ⟨s1.heap.objs.size + 1, [s1.heap.objs.size + 1, s1.heap.objs.size], _, _, H1, rfl, I2, turn_enumS x t (s1.heap.objs.size + 1) s1.heap.objs.size, ⟨Nat.zero_le _, ⟨.none, he⟩, ⟨_, hit, rfl, rfl⟩, Nat.succ_ne_self _⟩, fun b hb => ?_, q⟩
    have e' : b = s1.heap.objs.size + 1 ∨ b = s1.heap.objs.size := by simpa using hb
    have hle : s1.heap.objs.size ≤ b := by
      rcases e' with z | z
      · rw [z]; exact Nat.le_add_right _ _
      · rw [z]; exact Nat.le_refl _
    exact I1.fpOk hle (I1.hok.fresh hle)
end My

set_option Elab.async false
set_option linter.all false
set_option maxRecDepth 100000
set_option maxHeartbeats 4000000
namespace My
open PySem PySem.Spec PyProof.Rows L2 Evl
/-! ### lists of natural numbers, min and max, repr of a number -/
abbrev nV (l : List Nat) : List V := l.map fun (n : Nat) => V.int (n : Int)
theorem at_nV {l : List Nat} {i : Nat} (h : i < l.length) : atI (nV l) (i : Int) = some (.int (l.getD i 0 : Nat)) := by
  have e : ixN (nV l).length (i : Int) = some i := by
    unfold ixN
    rw [List.length_map, if_pos (by omega), if_pos (by omega)]
    simp
  unfold atI
  rw [e]
  show (nV l)[i]? = _
  rw [List.getElem?_map, List.getElem?_eq_getElem h, List.getD_eq_getElem?_getD, List.getElem?_eq_getElem h]
  rfl
theorem nV_len (l : List Nat) : (nV l).length = l.length := List.length_map _
abbrev nI (l : List Nat) : List Int := l.map fun (n : Nat) => (n : Int)
theorem nV_nI (l : List Nat) : nV l = (nI l).map V.int := by rw [List.map_map]; rfl
theorem sum_nI (l : List Nat) : (nI l).sum = ((l.sum : Nat) : Int) := by
  induction l with
  | nil => rfl
  | cons a l ih =>
    show (a : Int) + (nI l).sum = _
    rw [List.sum_cons, ih, Int.natCast_add]
theorem nV_app (l : List Nat) (n : Nat) : nV l ++ [V.int (n : Int)] = nV (l ++ [n]) := by simp [nV]
theorem nV_set (l : List Nat) (i n : Nat) : (nV l).set i (V.int (n : Int)) = nV (l.set i n) := by simp [nV, List.map_set]
section
variable {K : PySem.W.Frag} {σ : L2.St} {H : Hp} {ta tb tc te : TE}
def mn3 (a b c : Int) : Int := if c < (if b < a then b else a) then c else (if b < a then b else a)
theorem num3 (a b c : Int) : nuMin3 (.int a) (.int b) (.int c) = some (.int (mn3 a b c)) := by
  have h : ∀ i j : Int, nuLt (.int i) (.int j) = some (decide (i < j)) := fun _ _ => rfl
  unfold nuMin3 nuMin2 mn3
  rw [h]
  by_cases h1 : b < a
  · simp only [h1, decide_true, Option.map_some, Option.bind_some, if_true, h]
    by_cases h2 : c < b <;> simp [h2]
  · simp only [h1, decide_false, Option.map_some, Option.bind_some, if_false, h]
    by_cases h2 : c < a <;> simp [h2, h]
theorem ev_min3 {a b c : Int} (ha : Ev ta σ H (.int a)) (hb : Ev tb σ H (.int b)) (hc : Ev tc σ H (.int c)) : Ev (tCB (rNuC3 nuMin3) (tCons ta (tCons tb (tCons tc tNil)))) σ H (.int (mn3 a b c)) := fun H1 e Q q =>
  ha H1 e _ fun H2 e2 => hb H2 (e.trans e2) _ fun H3 e3 => hc H3 ((e.trans e2).trans e3) _ fun H4 e4 => ⟨_, _, _, _, rfl, num3 a b c, q H4 ((e2.trans e3).trans e4)⟩
def rReprI : List V → Hp → VK → Prop := fun xs H Q => ∃ i : Int, xs = [.int i] ∧ i.natAbs.log2 < 1920 ∧ Q (.str (toString i)) H
theorem cr_reprI {X : Cx} : CallR X (.builtin "repr") rReprI := SkE.call_repr_int
theorem ev_reprI {i : Int} (h : Ev te σ H (.int i)) (hb : i.natAbs.log2 < 1920) : Ev (tCB rReprI (tCons te tNil)) σ H (.str (toString i)) := fun H1 e Q q => h H1 e _ fun H2 e2 => ⟨i, rfl, hb, q H2 e2⟩
/-- min and max of a new list of numbers, told by what they are -/
theorem ev_minL {ns : List Int} {v : Int} (h : EvL te σ H (ns.map V.int)) (hne : 0 < ns.length) (hv : ∀ m, m ∈ ns → (∀ y, y ∈ ns → m ≤ y) → m = v) : Ev (tCB (rMin K) (tCons te tNil)) σ H (.int v) := fun H1 e Q q => h H1 e _ fun p H2 _ e2 h2 =>
  ⟨p, ns, rfl, sq_of h2, hne, fun m h1 h3 => by rw [hv m h1 h3]; exact q H2 e2⟩
theorem ev_maxL {ns : List Int} {v : Int} (h : EvL te σ H (ns.map V.int)) (hne : 0 < ns.length) (hv : ∀ m, m ∈ ns → (∀ y, y ∈ ns → y ≤ m) → m = v) : Ev (tCB (rMax K) (tCons te tNil)) σ H (.int v) := fun H1 e Q q => h H1 e _ fun p H2 _ e2 h2 =>
  ⟨p, ns, rfl, sq_of h2, hne, fun m h1 h3 => by rw [hv m h1 h3]; exact q H2 e2⟩
/-- the sum of a list that stands -/
theorem ev_sumR {p : Addr} {ns : List Int} (h : Ev te σ H (.ref p)) (hS : SqL K H p (ns.map V.int)) : Ev (tCB (rSum K) (tCons te tNil)) σ H (.int ns.sum) := fun H1 e Q q => h H1 e _ fun H2 e2 => ⟨p, ns, rfl, ex_l (e.trans e2) hS, q H2 e2⟩
theorem min2_nat (a b : Nat) : (if (b : Int) < (a : Int) then (b : Int) else (a : Int)) = ((min a b : Nat) : Int) := by split <;> omega
end
end My

set_option Elab.async false
set_option linter.all false
set_option maxRecDepth 100000
set_option maxHeartbeats 4000000
namespace My
open PySem PySem.Spec PyProof.Rows L2 Evl
open SX (S S_len S_cat S_beq S_beq_eq S_inj S_tl)
/-! ### texts as lists of code points -/
def cutL {α : Type} (l : List α) (lo hi : Option Int) : List α := (l.drop (HT.sIx l.length 0 lo)).take (HT.sIx l.length l.length hi - HT.sIx l.length 0 lo)
theorem cutV_L (xs : List V) (lo hi : Option Int) : cutV xs lo hi = cutL xs lo hi := rfl
theorem cutS_S (l : List Nat) (lo hi : Option Int) : cutS (S l) lo hi = S (cutL l lo hi) := by
  unfold cutS cutL
  rw [S_len]
theorem sIx_pos {n d : Nat} {i : Int} (h : 0 ≤ i) : HT.sIx n d (some i) = min i.toNat n := by
  show (if i < 0 then _ else min i.toNat n) = _
  rw [if_neg (by omega)]
theorem cutL_to {α : Type} {l : List α} {i : Int} (h : 0 ≤ i) : cutL l none (some i) = l.take i.toNat := by
  unfold cutL
  rw [sIx_pos h, HT.sIx_none, List.drop_zero, Nat.sub_zero]
  rw [List.take_eq_take_iff]
  omega
theorem cutL_from {α : Type} {l : List α} {i : Int} (h : 0 ≤ i) : cutL l (some i) none = l.drop i.toNat := by
  unfold cutL
  rw [sIx_pos h, HT.sIx_none]
  by_cases c : i.toNat ≤ l.length
  · rw [Nat.min_eq_left c]
    apply List.take_of_length_le
    rw [List.length_drop]
    omega
  · rw [Nat.min_eq_right (by omega), List.drop_length, List.drop_eq_nil_of_le (by omega)]
    simp
theorem cutL_mid {α : Type} {l : List α} {i j : Int} (h : 0 ≤ i) (hj : 0 ≤ j) : cutL l (some i) (some j) = (l.drop i.toNat).take (j.toNat - i.toNat) := by
  unfold cutL
  rw [sIx_pos h, sIx_pos hj]
  by_cases c : i.toNat ≤ l.length
  · rw [Nat.min_eq_left c, List.take_eq_take_iff, List.length_drop]
    omega
  · have e : min i.toNat l.length = l.length := Nat.min_eq_right (by omega)
    rw [e, List.drop_length, List.drop_eq_nil_of_le (show l.length ≤ i.toNat by omega)]
    simp
theorem cutL_map {α β : Type} (f : α → β) (l : List α) (lo hi : Option Int) : cutL (l.map f) lo hi = (cutL l lo hi).map f := by
  unfold cutL
  rw [List.length_map, List.map_take, List.map_drop]
theorem cutL_len {α : Type} (l : List α) (lo hi : Option Int) : (cutL l lo hi).length ≤ l.length := by
  unfold cutL
  rw [List.length_take, List.length_drop]
  omega
section
variable {X : Cx}
/-- a text times an int -/
def rRepS : R2 := fun x y H Q => ∃ (l : List Nat) (k : Int), x = .str (S l) ∧ y = .int k ∧ 0 ≤ k ∧ k ≤ 1000000 ∧ l.length * k.toNat ≤ 1000000 ∧ Q (.str (S (List.replicate k.toNat l).flatten)) H
theorem fold_app (l : List Nat) : ∀ (n : Nat) (acc : Array Nat), List.foldl (· ++ ·) acc (List.replicate n l.toArray) = acc ++ (List.replicate n l).flatten.toArray
  | 0, acc => by simp
  | n + 1, acc => by
    rw [List.replicate_succ, List.foldl_cons, fold_app l n, List.replicate_succ, List.flatten_cons]
    simp
theorem op_repS : OpR X (binaryOp .Mult) rRepS := by
  intro pins s σ H x y v u Q I rx ry h
  obtain ⟨l, k, rfl, rfl, h0, h1, hz, q⟩ := h
  obtain ⟨t, rfl⟩ := rx
  obtain ⟨t2, rfl⟩ := ry
  have hl : (S l).length = l.length := S_len l
  have hr : (decide (k < -(2 ^ 63 : Int)) || decide (k ≥ 2 ^ 63)) = false := by
    rw [decide_eq_false (by omega), decide_eq_false (by omega)]; rfl
  refine PySem.P.mul_str hr (fun n1 n2 => ?_) (fun n1 n2 => ?_) ?_
  · rw [hl]
    have a : (l.length : Int) ≤ 1000000 := by
      have : l.length * 1 ≤ l.length * k.toNat := Nat.mul_le_mul_left _ (by omega)
      omega
    have b : (1000000 : Int) ≤ (2 ^ 63 - 1) / k := (Int.le_ediv_iff_mul_le (by omega)).mpr (by omega)
    omega
  · rw [hl]
    show decide (l.length * k.toNat > sizeLine) = false
    have : sizeLine = 16777216 := rfl
    exact decide_eq_false (by omega)
  · by_cases c : k < 1
    · rw [if_pos c]
      have k0 : k.toNat = 0 := by omega
      rw [k0] at q
      exact ⟨by decide, ⟨.str (S []), H, I.tok _, ⟨_, rfl⟩, q⟩⟩
    · rw [if_neg c]
      by_cases d : (k == 1 || (S l).length == 0) = true
      · rw [if_pos d]
        have e : (List.replicate k.toNat l).flatten = l := by
          rw [Bool.or_eq_true] at d
          rcases d with d | d
          · have : k = 1 := by simpa using d
            subst this
            simp
          · have : l = [] := by
              rw [hl] at d
              exact List.length_eq_zero_iff.mp (by simpa using d)
            subst this
            simp
        rw [e] at q
        exact ⟨.str (S l), H, I, ⟨_, rfl⟩, q⟩
      · rw [if_neg d]
        have e : (⟨(List.replicate k.toNat (S l).cps).foldl (· ++ ·) #[]⟩ : PySem.Str) = S (List.replicate k.toNat l).flatten := by
          show PySem.Str.mk _ = PySem.Str.mk _
          rw [fold_app l]
          simp
        rw [e]
        refine ⟨?_, ⟨.str _, H, I.tok _, ⟨_, rfl⟩, q⟩⟩
        rw [S_len, List.length_flatten]
        have : sizeLine = 16777216 := rfl
        have e2 : (List.map List.length (List.replicate k.toNat l)).sum = k.toNat * l.length := by simp
        rw [e2, Nat.mul_comm]
        omega
end
/-! ### readings -/
abbrev rAddS : R2 := fun x y H Q => ∃ i j, x = .str i ∧ y = .str j ∧ i.length + j.length ≤ sizeLine ∧ Q (.str (i ++ j)) H
abbrev rJoin (K : PySem.W.Frag) : V → List V → Hp → VK → Prop := fun x xs H Q => ∃ a p, ∃ ys : List Str, x = .str a ∧ xs = [.ref p] ∧ (SqL K H p (ys.map V.str) ∨ SqT K H p (ys.map V.str)) ∧
    (ys.map (·.length)).sum + ys.length * a.length ≤ 16777216 ∧ Q (.str (Txt.join a ys)) H
abbrev sV (ls : List (List Nat)) : List V := ls.map fun l => V.str (S l)
section
variable {K : PySem.W.Frag} {σ : L2.St} {H : Hp} {ta tb te : TE} {x y z v : V} {D : Ends} {tu tz : TS} {tl th : TO}
theorem rv_addS {a b : List Nat} (h : a.length + b.length ≤ 1000000) : RV rAddS (.str (S a)) (.str (S b)) H (.str (S (a ++ b))) := fun H1 _ Q q =>
  ⟨S a, S b, rfl, rfl, by rw [S_len, S_len]; have : sizeLine = 16777216 := rfl; omega, by rw [S_cat]; exact q H1 (Ex.refl H1)⟩
theorem rv_repS {l : List Nat} {k : Int} (h0 : 0 ≤ k) (h1 : k ≤ 1000000) (hz : l.length * k.toNat ≤ 1000000) : RV rRepS (.str (S l)) (.int k) H (.str (S (List.replicate k.toNat l).flatten)) := fun H1 _ Q q => ⟨l, k, rfl, rfl, h0, h1, hz, q H1 (Ex.refl H1)⟩
theorem rv_ixSS {l : List Nat} {i : Int} {c : Nat} (h : l.length ≤ 100000) (ha : atI l i = some c) : RV rIxS (.str (S l)) (.int i) H (.str (S [c])) := rv_ixS (by rw [S_len]; exact h) (by simpa using ha)
theorem ev_slS {l : List Nat} {lo hi : Option Int} (h : Ev te σ H (.str (S l))) (h1 : EvO tl σ H lo) (h2 : EvO th σ H hi) (hz : l.length ≤ 1000000) : Ev (tSl rSlS te tl th) σ H (.str (S (cutL l lo hi))) := fun H1 e Q q =>
  h H1 e _ fun H2 e2 => h1 H2 (e.trans e2) _ fun H3 e3 => h2 H3 ((e.trans e2).trans e3) _ fun H4 e4 => ⟨S l, rfl, by rw [S_len]; have : sizeLine = 16777216 := rfl; omega, by
    rw [cutS_S]
    exact q H4 ((e2.trans e3).trans e4)⟩
theorem ev_lenSS {l : List Nat} (ha : Ev ta σ H (.str (S l))) (hs : l.length ≤ 1000000) : Ev (tCB (fun xs H Q => ∃ z : Str, xs = [.str z] ∧ z.length ≤ sizeLine ∧ Q (.int z.length) H) (tCons ta tNil)) σ H (.int (l.length : Int)) := by
  have h := ev_lenStr (s := S l) ha (by rw [S_len]; have : sizeLine = 16777216 := rfl; omega)
  rw [S_len] at h
  exact h
theorem joinL_nil : ∀ ls : List (List Nat), TL.joinL [] ls = ls.flatten
  | [] => rfl
  | [p] => by simp [TL.joinL]
  | p :: q :: r => by
    rw [TL.joinL, joinL_nil (q :: r)]
    simp
theorem sum_le {ls : List (List Nat)} {n : Nat} (h : ∀ l ∈ ls, l.length ≤ n) : (ls.map List.length).sum ≤ ls.length * n := by
  induction ls with
  | nil => simp
  | cons l ls ih =>
    have a := ih fun m hm => h m (List.mem_cons_of_mem _ hm)
    have b := h l List.mem_cons_self
    rw [List.map_cons, List.sum_cons, List.length_cons, Nat.succ_mul]
    omega
/-- ''.join(xs), xs a new list -/
theorem ev_joinL {ls : List (List Nat)} (ho : Ev ta σ H (.str (S []))) (hb : EvL tb σ H (sV ls)) (hz : (ls.map List.length).sum ≤ 1000000) : Ev (tM1 (rJoin K) ta tb) σ H (.str (S ls.flatten)) := fun H1 e Q q =>
  ho H1 e _ fun H2 e2 => ⟨⟨_, rfl⟩, hb H2 (e.trans e2) _ fun p H3 hp e3 h3 => ⟨S [], p, ls.map S, rfl, rfl, Or.inl (by rw [List.map_map]; exact sq_of h3), by
    rw [SX.lens, List.length_map]
    have : (S ([] : List Nat)).length = 0 := rfl
    rw [this, Nat.mul_zero]
    exact Nat.le_trans hz (by decide), by
    rw [SX.join_S, joinL_nil]
    exact q H3 (e2.trans e3)⟩⟩
end
/-! ### a dict whose keys are texts that were met -/
def DW (H : Hp) (d : Addr) (ws : List (List Nat)) : Prop := ∃ kvs, H d = some (.dK kvs) ∧ kvs.length ≤ ws.length ∧ ∀ w, (valV kvs (Sum.inr (S w))).isSome = decide (w ∈ ws)
theorem DW.ex {H H' : Hp} {d : Addr} {ws : List (List Nat)} (h : DW H d ws) (e : Ex H H') : DW H' d ws := by
  obtain ⟨kvs, a, b, c⟩ := h
  exact ⟨kvs, e _ _ a, b, c⟩
theorem DW.upd {H : Hp} {d p : Addr} {o : HO} {ws : List (List Nat)} (h : DW H d ws) (hp : d ≠ p) : DW (upd H p o) d ws := by
  obtain ⟨kvs, a, b, c⟩ := h
  exact ⟨kvs, by rw [upd_ne hp]; exact a, b, c⟩
theorem kV_str (w : List Nat) : (kV (Sum.inr (S w)) : V) = .str (S w) := rfl
section
variable {K : PySem.W.Frag} {σ : L2.St} {H : Hp} {ta tb te : TE} {D : Ends} {tz : TS}
theorem q_dnew {i : Nat} (k : ∀ p H1, H p = none → DW H1 p [] → Ex H H1 → tz D (σ.set i (some (.ref p))) H1) : tSeq (tAsg tDNewK (gName i)) tz D σ H := fun p hp =>
  k p _ hp ⟨[], upd_same, Nat.le_refl _, fun w => by simp [valV_nil]⟩ (Ex.new hp)
theorem ev_din {d : Addr} {w : List Nat} {ws : List (List Nat)} (ha : Ev ta σ H (.str (S w))) (hb : Ev tb σ H (.ref d)) (h : DW H d ws) : Ev (tDIn ta tb) σ H (.bl (decide (w ∈ ws))) := fun H1 e Q q =>
  ha H1 e _ fun H2 e2 => hb H2 (e.trans e2) _ fun H3 e3 => by
    obtain ⟨kvs, h1, h2, h3⟩ := h.ex ((e.trans e2).trans e3)
    exact ⟨d, _, rfl, DGet.k (k := Sum.inr (S w)) h1, by rw [h3]; exact q H3 (e2.trans e3)⟩
theorem ev_dni {d : Addr} {w : List Nat} {ws : List (List Nat)} (ha : Ev ta σ H (.str (S w))) (hb : Ev tb σ H (.ref d)) (h : DW H d ws) : Ev (tDNotIn ta tb) σ H (.bl (!decide (w ∈ ws))) := fun H1 e Q q =>
  ha H1 e _ fun H2 e2 => hb H2 (e.trans e2) _ fun H3 e3 => by
    obtain ⟨kvs, h1, h2, h3⟩ := h.ex ((e.trans e2).trans e3)
    exact ⟨d, _, rfl, DGet.k (k := Sum.inr (S w)) h1, by rw [h3]; exact q H3 (e2.trans e3)⟩
theorem dw_put {d : Addr} {w : List Nat} {ws : List (List Nat)} {v : V} {H : Hp} {kvs : List (Key × V)} (h2 : kvs.length ≤ ws.length) (h3 : ∀ w, (valV kvs (Sum.inr (S w))).isSome = decide (w ∈ ws)) : DW (upd H d (.dK (putK kvs (Sum.inr (S w)) v))) d (w :: ws) := by
  refine ⟨_, upd_same, ?_, fun u => ?_⟩
  · have : (putK kvs (Sum.inr (S w)) v).length ≤ kvs.length + 1 := by
      unfold putK
      split
      · rw [List.length_map]; omega
      · rw [List.length_append]; simp
    rw [List.length_cons]
    omega
  · rw [valV_put]
    by_cases e : u = w
    · subst e; simp
    · have e2 : ¬ (Sum.inr (S u) : Key) = Sum.inr (S w) := fun c => e (S_inj (Sum.inr.inj c))
      rw [if_neg e2, h3]
      simp [e]
/-- d[w] = True; d is not of the first heap -/
theorem s_dput {d : Addr} {w : List Nat} {ws : List (List Nat)} {v : V} (hv : Ev te σ H v) (ho : Ev tb σ H (.ref d)) (hi : Ev ta σ H (.str (S w))) (h : DW H d ws) (hl : ws.length < 100000)
    (k : ∀ H1, Ex H H1 → ∀ kvs, DW (upd H1 d (.dK kvs)) d (w :: ws) → D.nx σ (upd H1 d (.dK kvs))) : sDPut tb ta te D σ H :=
  hv H (Ex.refl H) _ fun H1 e1 => ho H1 e1 _ fun H2 e2 => hi H2 (e1.trans e2) _ fun H3 e3 => by
    obtain ⟨kvs, h1, h2, h3⟩ := h.ex ((e1.trans e2).trans e3)
    exact ⟨d, _, rfl, DPut.k (k := Sum.inr (S w)) h1 (sz_lt (by omega)), k H3 ((e1.trans e2).trans e3) _ (dw_put h2 h3)⟩
theorem q_dput {d : Addr} {w : List Nat} {ws : List (List Nat)} {v : V} (hv : Ev te σ H v) (ho : Ev tb σ H (.ref d)) (hi : Ev ta σ H (.str (S w))) (h : DW H d ws) (hl : ws.length < 100000)
    (k : ∀ H1, Ex H H1 → ∀ kvs, DW (upd H1 d (.dK kvs)) d (w :: ws) → tz D σ (upd H1 d (.dK kvs))) : tSeq (sDPut tb ta te) tz D σ H := s_dput (D := { D with nx := tz D }) hv ho hi h hl k
end
end My

set_option Elab.async false
set_option linter.all false
set_option maxRecDepth 100000
set_option maxHeartbeats 4000000
namespace My
open PySem PySem.Spec PyProof.Rows L2 Evl
open SX (S S_len S_cat S_beq S_beq_eq S_inj S_tl)
/-! ### a <= b < c <= d -/
def tChain3 (r r' r'' : R2) (ta tb tc td : TE) : L2.TT := fun σ H Q => ta σ H fun x H1 => tb σ H1 fun y H2 => r x y H2 fun z H3 => ∃ k, z = .bl k ∧
  (if k = true then tc σ H3 fun w H4 => r' y w H4 fun z2 H5 => ∃ k2, z2 = .bl k2 ∧ (if k2 = true then td σ H5 fun u H6 => r'' w u H6 fun z3 H7 => ∃ k3, z3 = .bl k3 ∧ Q k3 H7 else Q false H5) else Q false H3)
section
variable {X : Cx} {a b c d : Expr} {ta tb tc td : TE} {pos : Pos}
theorem pt_chain3 {op op' op'' : CmpOp} {r r' r'' : R2} (ho : OpR X (compareOp op) r) (ho' : OpR X (compareOp op') r') (ho'' : OpR X (compareOp op'') r'') (ha : PE X a ta) (hb : PE X b tb) (hc : PE X c tc) (hd : PE X d td)
    (hm : lastMarks [op, op', op''] [b, c, d] = false := by with_unfolding_all rfl) : PT X (.Compare a [op, op', op''] [b, c, d] pos) (tChain3 r r' r'' ta tb tc td) := by
  refine ⟨fun pins s σ H Q I h => ?_⟩
  refine isTrue_chain (thn (ha.run pins s σ H _ I h) fun v s1 ⟨x, H1, I1, r1, q1⟩ => test_link (thn (hb.run pins s1 σ H1 _ I1 q1) fun u s2 ⟨y, H2, I2, r2, q2⟩ =>
    thn (ho pins s2 σ H2 x y v u _ I2 r1 r2 q2) fun e s3 ⟨z, H3, I3, r3, k, e0, q3⟩ => ?_)) hm
  subst e0
  cases r3
  refine wpAny_truthy_bool ?_
  cases k with
  | false => exact ite_ff ⟨H3, I3, q3⟩
  | true =>
    refine ite_tt (test_link (thn (hc.run pins s3 σ H3 _ I3 q3) fun w' s4 ⟨w, H4, I4, r4, q4⟩ => thn (ho' pins s4 σ H4 y w u w' _ I4 r2 r4 q4) fun d' s5 ⟨z2, H5, I5, r5, k2, e2, q5⟩ => ?_))
    subst e2
    cases r5
    refine wpAny_truthy_bool ?_
    cases k2 with
    | false => exact ite_ff ⟨H5, I5, q5⟩
    | true =>
      refine ite_tt (test_last (thn (hd.run pins s5 σ H5 _ I5 q5) fun u' s6 ⟨u2, H6, I6, r6, q6⟩ => thn (ho'' pins s6 σ H6 w u2 w' u' _ I6 r4 r6 q6) fun d2 s7 ⟨z3, H7, I7, r7, k3, e3, q7⟩ => ?_))
      subst e3
      cases r7
      exact wpAny_truthy_bool ⟨H7, I7, q7⟩
end
section
variable {K : PySem.W.Frag} {σ : L2.St} {H : Hp} {ta tb tc td te : TE} {x y w u z v : V} {D : Ends} {tu tz : TS}
theorem et_chain3 {r r' r'' : R2} {k1 k2 k3 : Bool} (ha : Ev ta σ H x) (hb : Ev tb σ H y) (hc : Ev tc σ H w) (hd : Ev td σ H u) (h1 : RV r x y H (.bl k1)) (h2 : RV r' y w H (.bl k2)) (h3 : RV r'' w u H (.bl k3)) :
    EvT (tChain3 r r' r'' ta tb tc td) σ H (k1 && (k2 && k3)) := fun H0 e0 Q q => ha H0 e0 _ fun H1 e1 => hb H1 (e0.trans e1) _ fun H2 e2 => h1 H2 ((e0.trans e1).trans e2) _ fun H3 e3 => ⟨k1, rfl, by
    cases k1 with
    | false => exact ite_ff (q H3 ((e1.trans e2).trans e3))
    | true =>
      refine ite_tt (hc H3 (((e0.trans e1).trans e2).trans e3) _ fun H4 e4 => h2 H4 ((((e0.trans e1).trans e2).trans e3).trans e4) _ fun H5 e5 => ⟨k2, rfl, ?_⟩)
      cases k2 with
      | false => exact ite_ff (q H5 ((((e1.trans e2).trans e3).trans e4).trans e5))
      | true => exact ite_tt (hd H5 (((((e0.trans e1).trans e2).trans e3).trans e4).trans e5) _ fun H6 e6 => h3 H6 ((((((e0.trans e1).trans e2).trans e3).trans e4).trans e5).trans e6) _ fun H7 e7 => ⟨k3, rfl, q H7 ((((((e1.trans e2).trans e3).trans e4).trans e5).trans e6).trans e7)⟩)⟩
/-! ### items -/
theorem at_get {α : Type} {l : List α} {i : Int} (h0 : 0 ≤ i) (h1 : i < (l.length : Int)) : ∃ c, atI l i = some c ∧ c ∈ l := by
  obtain ⟨j, rfl⟩ : ∃ j : Nat, i = (j : Int) := ⟨i.toNat, by omega⟩
  have hj : j < l.length := by omega
  exact ⟨l[j], atI_nat (List.getElem?_eq_getElem hj), List.getElem_mem hj⟩
theorem at_str {l : Str} {i : Int} {n : Nat} (hn : l.length = n) (hz : n ≤ 100000) (h0 : 0 ≤ i) (h1 : i < (n : Int)) : ∃ c, RV rIxS (.str l) (.int i) H (.str (S [c])) := by
  obtain ⟨c, hc, _⟩ := at_get (l := l.cps.toList) h0 (by
    have : l.cps.toList.length = l.length := by simp [Str.length]
    omega)
  exact ⟨c, rv_ixS (by omega) hc⟩
theorem at_S {l : List Nat} {i : Int} (hz : l.length ≤ 100000) (h0 : 0 ≤ i) (h1 : i < (l.length : Int)) : ∃ c, c ∈ l ∧ RV rIxS (.str (S l)) (.int i) H (.str (S [c])) := by
  obtain ⟨c, hc, hm⟩ := at_get (l := l) h0 h1
  exact ⟨c, hm, rv_ixSS hz hc⟩
/-- an item of a written list of numbers -/
theorem at_ints {ns : List Int} {i : Int} (P : Int → Prop) (hP : ∀ n ∈ ns, P n) (h0 : 0 ≤ i) (h1 : i < (ns.length : Int)) : ∃ z, atI (ns.map V.int) i = some (.int z) ∧ P z := by
  obtain ⟨c, hc, hm⟩ := at_get (l := ns.map V.int) h0 (by rw [List.length_map]; exact h1)
  obtain ⟨z, hz, rfl⟩ := List.mem_map.mp hm
  exact ⟨z, hc, hP z hz⟩
theorem flat_strs (ls : List (List Nat)) : (sV ls).all flatV = true := by
  rw [List.all_eq_true]
  intro v hv
  obtain ⟨l, _, rfl⟩ := List.mem_map.mp hv
  rfl
theorem el_call2 {xs ys : List V} {sp : Sp} {E : XK} (ha : Ev ta σ H x) (hb : EvL tb σ H xs) (hs : ∀ p H1, H1 p = some (.lst xs) → Ex H H1 → SpL sp [x, .ref p] H1 ys) : EvL (tCall sp [] E (tCons ta (tCons tb tNil))) σ H ys := fun H0 e0 Q q =>
  ha H0 e0 _ fun H1 e1 => hb H1 (e0.trans e1) _ fun p H2 hp e2 h2 => hs p H2 h2 ((e0.trans e1).trans e2) H2 (Ex.refl H2) Q (fun r H3 hr e3 h3 => q r H3 (fresh_back (e1.trans e2) hr) ((e1.trans e2).trans e3) h3) E
theorem ev_ixNew {xs : List V} {i : Int} (ha : EvL ta σ H xs) (hb : ∀ H1, Ex H H1 → Ev tb σ H1 (.int i)) (h : atI xs i = some v) : Ev (tOp (rIxL K) ta tb) σ H v := fun H1 e Q q =>
  ha H1 e _ fun p H2 hp e2 h2 => hb H2 (e.trans e2) H2 (Ex.refl H2) _ fun H3 e3 => ⟨p, xs, i, v, rfl, rfl, sq_of (e3 _ _ h2), h, q H3 (e2.trans e3)⟩
/-- ''.join(sorted(xs)), fewer than 64 -/
theorem ev_joinSorted {p : Addr} {ls : List (List Nat)} {Q : VK} (ho : Ev ta σ H (.str (S []))) (hb : Ev tb σ H (.ref p)) (h : SqL K H p (sV ls)) (h64 : ls.length < 64) (hz : (ls.map List.length).sum ≤ 1000000)
    (q : ∀ (l : List Nat) H2, l.length = (ls.map List.length).sum → Ex H H2 → Q (.str (S l)) H2) : (tM1 (rJoin K) ta (tCB (rSortedS K) (tCons tb tNil))) σ H Q :=
  ho H (Ex.refl H) _ fun H1 e1 => ⟨⟨_, rfl⟩, hb H1 e1 _ fun H2 e2 => ⟨p, ls.map S, rfl, by rw [List.map_map]; exact ex_l (e1.trans e2) h, by rw [List.length_map]; exact h64, fun ys d perm _ hd =>
    ⟨S [], d, ys, rfl, rfl, Or.inl (sq_of upd_same), by
      have e : (S ([] : List Nat)).length = 0 := rfl
      have s := (perm.map (·.length)).sum_nat
      rw [SX.lens] at s
      rw [e, Nat.mul_zero, s]
      exact Nat.le_trans hz (by decide), by
      have e3 : ys = (ys.map fun y => y.cps.toList).map S := by
        rw [List.map_map]
        exact (List.map_id ys).symm.trans (List.map_congr_left fun y _ => (S_tl y).symm)
      have s := (perm.map (·.length)).sum_nat
      rw [SX.lens] at s
      rw [e3] at s ⊢
      rw [SX.join_S, joinL_nil]
      refine q _ _ ?_ ((e1.trans e2).trans (Ex.new hd))
      rw [SX.lens] at s
      rw [List.length_flatten]
      exact s⟩⟩⟩
theorem s_forS {l : List Nat} {tl : TE} {g : TG} (h : Ev tl σ H (.str (S l))) (Pv : Nat → L2.St → Hp → Prop) (h0 : ∀ H1, Ex H H1 → Pv 0 σ H1)
    (hs : ∀ i c σ H, (S l).cps[i]? = some c → Pv i σ H → g (.str ⟨#[c]⟩) σ H fun σ2 H2 => tu { D with nx := Pv (i + 1), ct := Pv (i + 1), bk := D.nx } σ2 H2) (hd : ∀ σ H, Pv (S l).cps.size σ H → D.nx σ H) : tFor (iStr tl) g tu D σ H :=
  h H (Ex.refl H) _ fun H1 e => ⟨S l, rfl, for_str Pv (h0 H1 e) hs hd⟩
end
end My

set_option Elab.async false
set_option linter.all false
set_option maxRecDepth 100000
set_option maxHeartbeats 4000000
namespace My
open PySem PySem.Spec PyProof.Rows L2 Evl
open SX (S S_len S_cat S_beq S_beq_eq S_inj S_tl)
section
variable {K : PySem.W.Frag} {σ : L2.St} {H : Hp} {ta tb tc td te : TE} {x y w u z v : V} {D : Ends} {tu tz : TS} {t : L2.TT}
theorem el_lcR2 {ta : TA} {j : Nat} {vs : List Nat} {lo n : Int} (f : Nat → Bool) (v : Nat → V) (h : EvA ta σ H [.int lo, .int n]) (hn : -10000 ≤ lo ∧ lo ≤ 10000 ∧ n ≤ 10000 ∧ -10000 ≤ n) (hw : ∀ x, wipe ((wipe σ vs).set j (some x)) vs = wipe σ vs)
    (ht : ∀ (i : Nat) H1, Ex H H1 → i < (n - lo).toNat → EvT t ((wipe σ vs).set j (some (.int (lo + (i : Int))))) H1 (f i)) (he : ∀ (i : Nat) H1, Ex H H1 → i < (n - lo).toNat → f i = true → Ev te ((wipe σ vs).set j (some (.int (lo + (i : Int))))) H1 (v i)) :
    EvL (tLc (iRng2 ta) (gName j) t te vs) σ H (given (n - lo).toNat f v) := fun H0 e Q q => h H0 e _ fun H1 e1 => ⟨lo, n, rfl, ⟨by omega, by omega, by omega, by omega⟩, fun Dl hD =>
  lc_range (lo := lo) (n := (n - lo).toNat) (Cw H1 f v Dl) ⟨hD, Ex.new hD, upd_same⟩ (fun i H' hi p => ⟨hw _, cw_turn p (by omega) (ht i H1 (e.trans e1) hi) (fun hf => he i H1 (e.trans e1) hi hf)⟩) (fun H' p => q Dl H' (fresh_back e1 p.1) (e1.trans p.2.1) p.2.2)⟩
theorem lc_str {x : Str} {g : TG} {tt : L2.TT} {te : TE} {vs : List Nat} {σ : L2.St} {H1 : Hp} {D : Addr} {Qd : Hp → Prop} (Pv : Nat → Hp → Prop) (h0 : Pv 0 (upd H1 D (.lst [])))
    (hs : ∀ i c H, x.cps[i]? = some c → Pv i H → g (.str ⟨#[c]⟩) (wipe σ vs) H fun σ2 H2 => wipe σ2 vs = wipe σ vs ∧ tt σ2 H2 fun b H3 =>
      if b = true then te σ2 H3 fun y H4 => ∃ acc, H4 D = some (.lst acc) ∧ acc.length < sizeLine ∧ Pv (i + 1) (upd H4 D (.lst (acc ++ [y]))) else Pv (i + 1) H3) (hd : ∀ H, Pv x.cps.size H → Qd H) :
    ∃ W : Nat → Nat → Hp → Prop, (∃ m, W 0 m (upd H1 D (.lst []))) ∧ ∀ i m H, W i m H →
      ((Its x).stop i H ∧ Qd H) ∨ ((Its x).go i H ∧ ∃ Nx : Hp → Prop, (∀ H', Nx H' → ∃ m', m' < m ∧ W (i + 1) m' H') ∧ ∀ y H', (Its x).yld i H y H' → g y (wipe σ vs) H' fun σ2 H2 => wipe σ2 vs = wipe σ vs ∧ tt σ2 H2 fun b H3 =>
        if b = true then te σ2 H3 fun y H4 => ∃ acc, H4 D = some (.lst acc) ∧ acc.length < sizeLine ∧ Nx (upd H4 D (.lst (acc ++ [y]))) else Nx H3) := by
  refine ⟨fun i m H => m = x.cps.size - i ∧ i ≤ x.cps.size ∧ Pv i H, ⟨x.cps.size, by simp, Nat.zero_le _, h0⟩, ?_⟩
  rintro i m H ⟨rfl, hi, p⟩
  by_cases hlt : i < x.cps.size
  · refine .inr ⟨hlt, Pv (i + 1), fun H' p' => ⟨x.cps.size - (i + 1), by omega, rfl, hlt, p'⟩, fun y H' z => ?_⟩
    obtain ⟨e, c, hc, rfl⟩ := z
    subst e
    exact hs i c _ hc p
  · have e : i = x.cps.size := by omega
    subst e
    exact .inl ⟨Nat.le_refl _, hd H p⟩
theorem el_lcS {l : List Nat} {tl : TE} {j : Nat} {vs : List Nat} (f : Nat → Bool) (v : Nat → V) (h : Ev tl σ H (.str (S l))) (hz : l.length ≤ 40000) (hw : ∀ x, wipe ((wipe σ vs).set j (some x)) vs = wipe σ vs)
    (ht : ∀ (i c : Nat) H1, Ex H H1 → l[i]? = some c → EvT t ((wipe σ vs).set j (some (.str (S [c])))) H1 (f i)) (he : ∀ (i c : Nat) H1, Ex H H1 → l[i]? = some c → f i = true → Ev te ((wipe σ vs).set j (some (.str (S [c])))) H1 (v i)) :
    EvL (tLc (iStr tl) (gName j) t te vs) σ H (given l.length f v) := fun H0 e Q q => h H0 e _ fun H1 e1 => ⟨S l, rfl, fun Dl hD => by
  have hsz : (S l).cps.size = l.length := by simp
  refine lc_str (x := S l) (Cw H1 f v Dl) ⟨hD, Ex.new hD, upd_same⟩ (fun i c H' hi p => ?_) (fun H' p => ?_)
  · have hi2 : l[i]? = some c := by simpa using hi
    have := (List.getElem?_eq_some_iff.mp hi2).1
    exact ⟨hw _, cw_turn p (by omega) (ht i c H1 (e.trans e1) hi2) (fun hf => he i c H1 (e.trans e1) hi2 hf)⟩
  · rw [hsz] at p
    exact q Dl H' (fresh_back e1 p.1) (e1.trans p.2.1) p.2.2⟩
/-- the texts made, as a list -/
theorem given_S (g : Nat → List Nat) : ∀ n, given n (fun _ => true) (fun i => V.str (S (g i))) = sV ((List.range n).map g)
  | 0 => rfl
  | n + 1 => by
    rw [given_yes rfl, given_S g n, List.range_succ, List.map_append]
    show _ = List.map _ (List.map g (List.range n) ++ [g n])
    rw [List.map_append]
    rfl
theorem sum_range (g : Nat → List Nat) (b : Nat) (h : ∀ i, (g i).length ≤ b) (n : Nat) : (((List.range n).map g).map List.length).sum ≤ n * b := by
  have := sum_le (ls := (List.range n).map g) (n := b) fun l hl => by
    obtain ⟨i, _, rfl⟩ := List.mem_map.mp hl
    exact h i
  rw [List.length_map, List.length_range] at this
  exact this
theorem len_range (g : Nat → List Nat) (b : Nat) (h : ∀ i, (g i).length = b) : ∀ n, (((List.range n).map g).flatten).length = n * b
  | 0 => by simp
  | n + 1 => by
    rw [List.range_succ, List.map_append, List.flatten_append, List.length_append, len_range g b h n, Nat.succ_mul]
    simp [h]
theorem len_range_le (g : Nat → List Nat) (b : Nat) (h : ∀ i, (g i).length ≤ b) (n : Nat) : (((List.range n).map g).flatten).length ≤ n * b := by
  rw [List.length_flatten]
  exact sum_range g b h n
end
end My

set_option Elab.async false
set_option linter.all false
set_option maxRecDepth 100000
set_option maxHeartbeats 4000000
namespace My
open PySem PySem.Spec PyProof.Rows L2 Evl
section
variable {K : PySem.W.Frag} {σ : L2.St} {H : Hp} {ta tb tc td te : TE} {x y w u z v : V} {D : Ends} {tu tz : TS}
theorem et_chain {r r' : R2} {k1 k2 : Bool} (ha : Ev ta σ H x) (hb : Ev tb σ H y) (hc : Ev tc σ H w) (h1 : RV r x y H (.bl k1)) (h2 : RV r' y w H (.bl k2)) : EvT (tTest (tChain r r' ta tb tc)) σ H (k1 && k2) :=
  et_test fun H0 e0 Q q => ha H0 e0 _ fun H1 e1 => hb H1 (e0.trans e1) _ fun H2 e2 => h1 H2 ((e0.trans e1).trans e2) _ fun H3 e3 => ⟨k1, rfl, by
    cases k1 with
    | false => exact ite_ff (q H3 ((e1.trans e2).trans e3))
    | true => exact ite_tt (hc H3 (((e0.trans e1).trans e2).trans e3) _ fun H4 e4 => h2 H4 ((((e0.trans e1).trans e2).trans e3).trans e4) _ fun H5 e5 => q H5 ((((e1.trans e2).trans e3).trans e4).trans e5))⟩
/-- list(range(n)) -/
theorem el_listRg {n : Int} (h : Ev te σ H (.int n)) (h0 : 0 ≤ n) (h1 : n ≤ 40000) : EvL (tLstRg (tRg1 te)) σ H (rgV 0 n) := fun H1 e Q q =>
  h H1 e _ fun H2 e2 => ⟨n, rfl, by unfold RgOk; omega, fun l hl => q l _ (fresh_back e2 hl) (e2.trans (Ex.new hl)) upd_same⟩
theorem rgV_nat (n : Nat) : rgV 0 (n : Int) = nV (List.range n) := by
  unfold rgV nV
  rw [Int.sub_zero, Int.toNat_natCast]
  refine List.map_congr_left fun i _ => ?_
  rw [Int.zero_add]
/-- a call with two new lists -/
theorem q_callLL {i : Nat} {xs ys : List V} {sp : Sp} {E : XK} (ha : EvL ta σ H xs) (hb : EvL tb σ H ys)
    (k : ∀ p q H1, Ex H H1 → H1 p = some (.lst xs) → H1 q = some (.lst ys) → sp [.ref p, .ref q] H1 (fun x H2 => tz D (σ.set i (some x)) H2) E) : tSeq (tAsg (tCall sp [] E (tCons ta (tCons tb tNil))) (gName i)) tz D σ H :=
  ha H (Ex.refl H) _ fun p H1 hp e1 h1 => hb H1 e1 _ fun q H2 hq e2 h2 => k p q H2 (e1.trans e2) (e2 _ _ h1) h2
theorem q_callVL {i : Nat} {ys : List V} {sp : Sp} {E : XK} (ha : Ev ta σ H x) (hb : EvL tb σ H ys)
    (k : ∀ q H1, Ex H H1 → H1 q = some (.lst ys) → sp [x, .ref q] H1 (fun x H2 => tz D (σ.set i (some x)) H2) E) : tSeq (tAsg (tCall sp [] E (tCons ta (tCons tb tNil))) (gName i)) tz D σ H :=
  ha H (Ex.refl H) _ fun H1 e1 => hb H1 e1 _ fun q H2 hq e2 h2 => k q H2 (e1.trans e2) h2
/-- a call whose second argument of four is a new list -/
theorem ev_call4L2 {xs : List V} {sp : Sp} {E : XK} (ha : Ev ta σ H x) (hb : EvL tb σ H xs) (hc : Ev tc σ H y) (hd : Ev td σ H w) (hs : ∀ p H1, H1 p = some (.lst xs) → Ex H H1 → SpV sp [x, .ref p, y, w] H1 z) :
    Ev (tCall sp [] E (tCons ta (tCons tb (tCons tc (tCons td tNil))))) σ H z := fun H0 e0 Q q =>
  ha H0 e0 _ fun H1 e1 => hb H1 (e0.trans e1) _ fun p H2 hp e2 h2 => hc H2 ((e0.trans e1).trans e2) _ fun H3 e3 => hd H3 (((e0.trans e1).trans e2).trans e3) _ fun H4 e4 =>
    hs p H4 (e4 _ _ (e3 _ _ h2)) ((((e0.trans e1).trans e2).trans e3).trans e4) H4 (Ex.refl H4) Q (fun H5 e5 => q H5 ((((e1.trans e2).trans e3).trans e4).trans e5)) E
theorem q_callLV {i : Nat} {xs : List V} {sp : Sp} {E : XK} (ha : EvL ta σ H xs) (hb : Ev tb σ H y)
    (k : ∀ q H1, Ex H H1 → H1 q = some (.lst xs) → sp [.ref q, y] H1 (fun x H2 => tz D (σ.set i (some x)) H2) E) : tSeq (tAsg (tCall sp [] E (tCons ta (tCons tb tNil))) (gName i)) tz D σ H :=
  ha H (Ex.refl H) _ fun q H1 hq e1 h1 => hb H1 e1 _ fun H2 e2 => k q H2 (e1.trans e2) (e2 _ _ h1)
/-- over range(n), n may be below 0 -/
theorem el_lcRz {ta : TA} {t : L2.TT} {j : Nat} {vs : List Nat} {n : Int} (f : Nat → Bool) (v : Nat → V) (h : EvA ta σ H [.int n]) (hn : -40000 ≤ n ∧ n ≤ 40000) (hw : ∀ x, wipe ((wipe σ vs).set j (some x)) vs = wipe σ vs)
    (ht : ∀ (i : Nat) H1, Ex H H1 → (i : Int) < n → EvT t ((wipe σ vs).set j (some (.int (i : Int)))) H1 (f i)) (he : ∀ (i : Nat) H1, Ex H H1 → (i : Int) < n → f i = true → Ev te ((wipe σ vs).set j (some (.int (i : Int)))) H1 (v i)) :
    EvL (tLc (iRng1 ta) (gName j) t te vs) σ H (given n.toNat f v) := fun H0 e Q q => h H0 e _ fun H1 e1 => ⟨n, rfl, by omega, by omega, fun Dl hD =>
  lc_range (lo := 0) (n := n.toNat) (Cw H1 f v Dl) ⟨hD, Ex.new hD, upd_same⟩ (fun i H' hi p => by
    have e0 : (0 : Int) + (i : Int) = (i : Int) := Int.zero_add _
    show wipe ((wipe σ vs).set j (some (.int ((0 : Int) + (i : Int))))) vs = wipe σ vs ∧ t ((wipe σ vs).set j (some (.int ((0 : Int) + (i : Int))))) H' fun b H3 => if b = true then te ((wipe σ vs).set j (some (.int ((0 : Int) + (i : Int))))) H3 fun y H4 => ∃ acc, H4 Dl = some (.lst acc) ∧ acc.length < sizeLine ∧ Cw H1 f v Dl (i + 1) (upd H4 Dl (.lst (acc ++ [y]))) else Cw H1 f v Dl (i + 1) H3
    rw [e0]
    exact ⟨hw _, cw_turn p (by omega) (ht i H1 (e.trans e1) (by omega)) (fun hf => he i H1 (e.trans e1) (by omega) hf)⟩) (fun H' p => q Dl H' (fresh_back e1 p.1) (e1.trans p.2.1) p.2.2)⟩
/-- the least, the greatest of a new list, given to a name -/
theorem q_minL {i : Nat} {ns : List Int} (h : EvL te σ H (ns.map V.int)) (hne : 0 < ns.length) (k : ∀ m, m ∈ ns → (∀ y, y ∈ ns → m ≤ y) → ∀ H1, Ex H H1 → tz D (σ.set i (some (.int m))) H1) : tSeq (tAsg (tCB (rMin K) (tCons te tNil)) (gName i)) tz D σ H :=
  h H (Ex.refl H) _ fun p H1 _ e1 h1 => ⟨p, ns, rfl, sq_of h1, hne, fun m a b => k m a b H1 e1⟩
theorem q_maxL {i : Nat} {ns : List Int} (h : EvL te σ H (ns.map V.int)) (hne : 0 < ns.length) (k : ∀ m, m ∈ ns → (∀ y, y ∈ ns → y ≤ m) → ∀ H1, Ex H H1 → tz D (σ.set i (some (.int m))) H1) : tSeq (tAsg (tCB (rMax K) (tCons te tNil)) (gName i)) tz D σ H :=
  h H (Ex.refl H) _ fun p H1 _ e1 h1 => ⟨p, ns, rfl, sq_of h1, hne, fun m a b => k m a b H1 e1⟩
end
theorem log2_small {n : Nat} (h : n < 2 ^ 1000) : ((n : Nat) : Int).natAbs.log2 < 1920 := by
  rw [Int.natAbs_natCast]
  by_cases z : n = 0
  · subst z; decide
  · have := (Nat.log2_lt z).mpr h
    omega
theorem within_cons {ds : List Int} {s : Int} {ss : List Int} (h : Within ds (s :: ss)) : ∃ d rest, ds = d :: rest ∧ (0 ≤ d ∧ d < s) ∧ Within rest ss := by
  cases ds with
  | nil => exact h.elim
  | cons d rest => exact ⟨d, rest, rfl, h.1, h.2⟩
theorem sum_range_succ (f : Nat → Nat) (n : Nat) : ((List.range (n + 1)).map f).sum = f 0 + ((List.range n).map fun i => f (i + 1)).sum := by
  rw [List.range_succ_eq_map, List.map_cons, List.sum_cons, List.map_map]
  rfl
theorem sum_range_last (f : Nat → Nat) (n : Nat) : ((List.range (n + 1)).map f).sum = ((List.range n).map f).sum + f n := by
  rw [List.range_succ, List.map_append, List.sum_append]
  simp
end My

set_option linter.all false
namespace My
/-! ### the cut of a text: rows (parent, letter), the place reached -/
def ixR : Nat → List (Nat × Nat) → Nat × Nat → Option Nat
  | _, [], _ => none
  | n, r :: rs, x => if r = x then some n else ixR (n + 1) rs x
def stepC (s : List (Nat × Nat) × Nat) (c : Nat) : List (Nat × Nat) × Nat :=
  match ixR 1 s.1 (s.2, c) with
  | some n => (s.1, n)
  | none => (s.1 ++ [(s.2, c)], 0)
def cutC (text : List Nat) : List (Nat × Nat) × Nat := text.foldl stepC ([], 0)
/-- the texts of the pieces, piece 0 first -/
def piF (rows : List (Nat × Nat)) : List (List Nat) := rows.foldl (fun ps r => ps ++ [ps.getD r.1 [] ++ [r.2]]) [[]]
theorem piF_snoc (rows : List (Nat × Nat)) (r : Nat × Nat) : piF (rows ++ [r]) = piF rows ++ [(piF rows).getD r.1 [] ++ [r.2]] := by
  unfold piF
  rw [List.foldl_append]
  rfl
theorem snoc_ind {α : Type} {P : List α → Prop} (h0 : P []) (hs : ∀ l a, P l → P (l ++ [a])) (l : List α) : P l := by
  have h : ∀ l : List α, P l.reverse := fun l => by
    induction l with
    | nil => exact h0
    | cons a l ih => rw [List.reverse_cons]; exact hs _ _ ih
  have := h l.reverse
  rwa [List.reverse_reverse] at this
theorem piF_len (rows : List (Nat × Nat)) : (piF rows).length = rows.length + 1 := by
  induction rows using snoc_ind with
  | h0 => rfl
  | hs l a ih => rw [piF_snoc, List.length_append, List.length_append, ih]; rfl
theorem piF_zero (rows : List (Nat × Nat)) : (piF rows).getD 0 [] = [] := by
  induction rows using snoc_ind with
  | h0 => rfl
  | hs l a ih =>
    have := piF_len l
    rw [piF_snoc, List.getD_eq_getElem?_getD, List.getElem?_append_left (by omega), ← List.getD_eq_getElem?_getD, ih]
theorem getD_left {α : Type} {a b : List α} {i : Nat} {d : α} (h : i < a.length) : (a ++ b).getD i d = a.getD i d := by
  rw [List.getD_eq_getElem?_getD, List.getElem?_append_left h, ← List.getD_eq_getElem?_getD]
theorem getD_last {α : Type} {a : List α} {x d : α} : (a ++ [x]).getD a.length d = x := by
  rw [List.getD_eq_getElem?_getD, List.getElem?_append_right (Nat.le_refl _), Nat.sub_self]
  rfl
/-- piece i + 1 is what its row says -/
theorem piF_row {rows : List (Nat × Nat)} (hp : ∀ (i : Nat) (r : Nat × Nat), rows[i]? = some r → r.1 ≤ i) : ∀ {i : Nat} {r : Nat × Nat}, rows[i]? = some r → (piF rows).getD (i + 1) [] = (piF rows).getD r.1 [] ++ [r.2] := by
  induction rows using snoc_ind with
  | h0 => intro i r h; cases h
  | hs l a ih =>
    have hl := piF_len l
    intro i r h
    have hpr := hp i r h
    have hi : i < l.length + 1 := by
      have := (List.getElem?_eq_some_iff.mp h).1
      rw [List.length_append] at this
      exact this
    rw [piF_snoc]
    by_cases e : i < l.length
    · rw [List.getElem?_append_left e] at h
      rw [getD_left (by omega), getD_left (by omega)]
      exact ih (fun j q hq => hp j q (by rw [List.getElem?_append_left (List.getElem?_eq_some_iff.mp hq).1]; exact hq)) h
    · have ei : i = l.length := by omega
      subst ei
      rw [List.getElem?_append_right (Nat.le_refl _), Nat.sub_self] at h
      cases Option.some.inj h
      rw [show l.length + 1 = (piF l).length by omega, getD_last, getD_left (by omega)]
theorem ixR_some : ∀ {n : Nat} {rs : List (Nat × Nat)} {x : Nat × Nat} {k : Nat}, ixR n rs x = some k → n ≤ k ∧ rs[k - n]? = some x
  | n, [], x, k, h => by cases h
  | n, r :: rs, x, k, h => by
    unfold ixR at h
    by_cases e : r = x
    · rw [if_pos e] at h
      cases Option.some.inj h
      rw [Nat.sub_self]
      exact ⟨Nat.le_refl _, congrArg some e⟩
    · rw [if_neg e] at h
      obtain ⟨a, b⟩ := ixR_some h
      refine ⟨by omega, ?_⟩
      rw [show k - n = (k - (n + 1)) + 1 by omega]
      exact b
theorem ixR_none : ∀ {n : Nat} {rs : List (Nat × Nat)} {x : Nat × Nat}, ixR n rs x = none → x ∉ rs
  | n, [], x, h => List.not_mem_nil
  | n, r :: rs, x, h => by
    unfold ixR at h
    by_cases e : r = x
    · rw [if_pos e] at h; cases h
    · rw [if_neg e] at h
      intro hm
      rcases List.mem_cons.mp hm with rfl | hm
      · exact e rfl
      · exact ixR_none h hm
/-- what holds of a cut of what was read -/
structure CutOk (text : List Nat) (rows : List (Nat × Nat)) (at_ : Nat) : Prop where
  nd : rows.Nodup
  par : ∀ (i : Nat) (r : Nat × Nat), rows[i]? = some r → r.1 ≤ i
  let_ : ∀ (i : Nat) (r : Nat × Nat), rows[i]? = some r → r.2 ∈ text
  at_le : at_ ≤ rows.length
  joined : ((piF rows).tail).flatten ++ (piF rows).getD at_ [] = text
theorem cutOk_nil : CutOk [] [] 0 := ⟨List.nodup_nil, fun _ _ h => by (cases h), fun _ _ h => by (cases h), Nat.le_refl _, rfl⟩
theorem nodup_snoc {α : Type} {l : List α} {a : α} (h : l.Nodup) (ha : a ∉ l) : (l ++ [a]).Nodup := by
  rw [List.nodup_append]
  refine ⟨h, by simp, fun x hx y hy => ?_⟩
  rw [List.mem_singleton.mp hy]
  exact fun e => ha (e ▸ hx)
theorem tail_snoc {α : Type} {l : List α} {a : α} (h : 0 < l.length) : (l ++ [a]).tail = l.tail ++ [a] := by
  cases l with
  | nil => exact absurd h (Nat.lt_irrefl _)
  | cons b l => rfl
theorem cutOk_step {text : List Nat} {rows : List (Nat × Nat)} {at_ c : Nat} (h : CutOk text rows at_) : CutOk (text ++ [c]) (stepC (rows, at_) c).1 (stepC (rows, at_) c).2 := by
  have hl := piF_len rows
  unfold stepC
  cases e : ixR 1 rows (at_, c) with
  | some k =>
    obtain ⟨a, b⟩ := ixR_some e
    have hk := (List.getElem?_eq_some_iff.mp b).1
    have hrow := piF_row h.par b
    rw [show k - 1 + 1 = k by omega] at hrow
    refine ⟨h.nd, h.par, fun i r hr => List.mem_append_left _ (h.let_ i r hr), by show k ≤ rows.length; omega, ?_⟩
    show _ ++ (piF rows).getD k [] = _
    rw [hrow, ← List.append_assoc, h.joined]
  | none =>
    have hn := ixR_none e
    have he := h.at_le
    refine ⟨nodup_snoc h.nd hn, fun i r hr => ?_, fun i r hr => ?_, Nat.zero_le _, ?_⟩
    · by_cases hi : i < rows.length
      · rw [List.getElem?_append_left hi] at hr
        exact h.par i r hr
      · have := (List.getElem?_eq_some_iff.mp hr).1
        rw [List.length_append] at this
        have ei : i = rows.length := by simp at this; omega
        subst ei
        rw [List.getElem?_append_right (Nat.le_refl _), Nat.sub_self] at hr
        cases Option.some.inj hr
        exact he
    · by_cases hi : i < rows.length
      · rw [List.getElem?_append_left hi] at hr
        exact List.mem_append_left _ (h.let_ i r hr)
      · have := (List.getElem?_eq_some_iff.mp hr).1
        rw [List.length_append] at this
        have ei : i = rows.length := by simp at this; omega
        subst ei
        rw [List.getElem?_append_right (Nat.le_refl _), Nat.sub_self] at hr
        cases Option.some.inj hr
        exact List.mem_append_right _ (by simp)
    · show ((piF (rows ++ [(at_, c)])).tail).flatten ++ (piF (rows ++ [(at_, c)])).getD 0 [] = _
      rw [piF_zero, List.append_nil, piF_snoc, tail_snoc (by omega), List.flatten_append]
      simp only [List.flatten_cons, List.flatten_nil, List.append_nil]
      rw [← List.append_assoc, h.joined]
theorem cutC_snoc (text : List Nat) (c : Nat) : cutC (text ++ [c]) = stepC (cutC text) c := by
  unfold cutC
  rw [List.foldl_append]
  rfl
theorem cutOk (text : List Nat) : CutOk text (cutC text).1 (cutC text).2 := by
  induction text using snoc_ind with
  | h0 => exact cutOk_nil
  | hs l a ih => rw [cutC_snoc]; exact cutOk_step ih
/-- a piece is no longer than its number -/
theorem piF_short {rows : List (Nat × Nat)} (hp : ∀ (i : Nat) (r : Nat × Nat), rows[i]? = some r → r.1 ≤ i) : ∀ i, i ≤ rows.length → ((piF rows).getD i []).length ≤ i := by
  intro i
  induction i using Nat.strongRecOn with
  | ind i ih =>
    intro hi
    cases i with
    | zero => rw [piF_zero]; exact Nat.le_refl _
    | succ i =>
      obtain ⟨r, hr⟩ : ∃ r, rows[i]? = some r := ⟨_, List.getElem?_eq_getElem (by omega)⟩
      have h1 := hp i r hr
      have h2 := ih r.1 (by omega) (by omega)
      rw [piF_row hp hr, List.length_append]
      show _ + 1 ≤ _
      omega
theorem nodup_idx {α : Type} {l : List α} (nd : l.Nodup) {i j : Nat} (hi : i < l.length) (hj : j < l.length) (e : l[i] = l[j]) : i = j := by
  have h := List.pairwise_iff_getElem.mp nd
  rcases Nat.lt_trichotomy i j with z | z | z
  · exact absurd e (h i j hi hj z)
  · exact z
  · exact absurd e.symm (h j i hj hi z)
/-- pieces are told by their texts -/
theorem piF_inj {rows : List (Nat × Nat)} (nd : rows.Nodup) (hp : ∀ (i : Nat) (r : Nat × Nat), rows[i]? = some r → r.1 ≤ i) : ∀ i j, i ≤ rows.length → j ≤ rows.length → (piF rows).getD i [] = (piF rows).getD j [] → i = j := by
  intro i
  induction i using Nat.strongRecOn with
  | ind i ih =>
    intro j hi hj e
    cases i with
    | zero =>
      cases j with
      | zero => rfl
      | succ j =>
        obtain ⟨r, hr⟩ : ∃ r, rows[j]? = some r := ⟨_, List.getElem?_eq_getElem (by omega)⟩
        rw [piF_zero, piF_row hp hr] at e
        simp at e
    | succ i =>
      obtain ⟨q, hq⟩ : ∃ q, rows[i]? = some q := ⟨_, List.getElem?_eq_getElem (by omega)⟩
      rw [piF_row hp hq] at e
      cases j with
      | zero =>
        rw [piF_zero] at e
        simp at e
      | succ j =>
        obtain ⟨r, hr⟩ : ∃ r, rows[j]? = some r := ⟨_, List.getElem?_eq_getElem (by omega)⟩
        rw [piF_row hp hr] at e
        have h1 := hp i q hq
        have h2 := hp j r hr
        obtain ⟨e1, e2⟩ := List.append_inj' e rfl
        have e3 := ih q.1 (by omega) r.1 (by omega) (by omega) e1
        have e4 : q.2 = r.2 := by simpa using e2
        have e5 : q = r := Prod.ext e3 e4
        rw [e5] at hq
        have h5 := (List.getElem?_eq_some_iff.mp hq).1
        have : i = j := by
          have h6 := (List.getElem?_eq_some_iff.mp hr).1
          have a1 := (List.getElem?_eq_some_iff.mp hq).2
          have a2 := (List.getElem?_eq_some_iff.mp hr).2
          exact nodup_idx nd h5 h6 (a1.trans a2.symm)
        omega
end My

set_option Elab.async false
set_option linter.all false
set_option maxRecDepth 100000
set_option maxHeartbeats 4000000
namespace My
open PySem PySem.Spec PyProof.Rows L2 Evl
open SX (S S_len S_cat S_beq S_beq_eq S_inj S_tl)
/-! ### methods and classes at their names -/
structure AtM (K : PySem.W.Frag) (C : Addr) (m qual : Str) (st : Stmt) : Prop where
  ex : ∃ (f : Addr) (fd : FuncData), FunD K m qual (defArgs st) (defBody st) (defScope st) [] [] f fd ∧ Meth K C m f
structure AtI (K : PySem.W.Frag) (C : Addr) (qual : Str) (st : Stmt) : Prop where
  ex : ∃ (f : Addr) (fd : FuncData), FunD K "__init__" qual (defArgs st) (defBody st) (defScope st) [] [] f fd ∧ Mk K C f
structure DnM (P : Program) (w : World) (K : PySem.W.Frag) (mg : Str → Option Value) (base : Heap) (k : Nat) (C : Addr) (m : Str) (ps : List Str) (sp : Sp) : Prop where
  ex : ∃ (f : Addr) (fd : FuncData), FnOk P w K mg base CX0 k f fd ps sp ∧ Meth K C m f ∧ Binds K fd ps []
structure DnI (P : Program) (w : World) (K : PySem.W.Frag) (mg : Str → Option Value) (base : Heap) (k : Nat) (C : Addr) (ps : List Str) (sp : Sp) : Prop where
  ex : ∃ (f : Addr) (fd : FuncData), FnOk P w K mg base CX0 k f fd ps sp ∧ Mk K C f ∧ Binds K fd ps []
section
variable {P : Program} {w : World} {K : PySem.W.Frag} {mg : Str → Option Value} {base : Heap} {m qual : Str} {C : Addr} {st : Stmt} {N ps : List Str} {k : Nat} {sp : Sp}
theorem dnm_ok (F : AtM K C m qual st) (S : FnScope N ps (defScope st))
    (hb : ∀ (kV doc pm : Value) (an : Option Addr) (cdv ct : Value) (us : List Value), us.length = ps.length → bindArgs (PySem.W.fnOf m qual (defArgs st) (defBody st) (defScope st) .none kV doc pm an cdv ct) ⟨us, []⟩ = pure (ps.zip us))
    (len : ∀ vs H Q E, sp vs H Q E → vs.length = ps.length)
    (hbody : ∀ (f : Addr) (cdv : Value) (A : Around) (outer : List Env) (s : Shared) (H : Hp) (vs : List V) (Q : VK) (E : XK), Room k (A.deeper (envOfC qual (defScope st) s.heap.objs.size f cdv)) → sp vs H Q E →
      ∃ t, PSs (cxOf CX0 P w K mg base N qual (defScope st) f cdv A outer s H E).nox (defBody st) t ∧ t { nx := fun _ H' => Q .non H', rt := Q } (start N vs) H) : DnM P w K mg base (k + 1) C m ps sp := by
  obtain ⟨f, fd, F, g⟩ := F.ex
  refine ⟨f, fd, FunD.ok F S len (fun cdv A outer s H vs Q E hr h => ?_), g, F.bindsN hb⟩
  obtain ⟨t, h1, h2⟩ := hbody f cdv A outer s H vs Q E hr h
  exact ⟨t, PSs.nox h1, h2⟩
theorem dni_ok (F : AtI K C qual st) (S : FnScope N ps (defScope st))
    (hb : ∀ (kV doc pm : Value) (an : Option Addr) (cdv ct : Value) (us : List Value), us.length = ps.length → bindArgs (PySem.W.fnOf "__init__" qual (defArgs st) (defBody st) (defScope st) .none kV doc pm an cdv ct) ⟨us, []⟩ = pure (ps.zip us))
    (len : ∀ vs H Q E, sp vs H Q E → vs.length = ps.length)
    (hbody : ∀ (f : Addr) (cdv : Value) (A : Around) (outer : List Env) (s : Shared) (H : Hp) (vs : List V) (Q : VK) (E : XK), Room k (A.deeper (envOfC qual (defScope st) s.heap.objs.size f cdv)) → sp vs H Q E →
      ∃ t, PSs (cxOf CX0 P w K mg base N qual (defScope st) f cdv A outer s H E).nox (defBody st) t ∧ t { nx := fun _ H' => Q .non H', rt := Q } (start N vs) H) : DnI P w K mg base (k + 1) C ps sp := by
  obtain ⟨f, fd, F, g⟩ := F.ex
  refine ⟨f, fd, FunD.ok F S len (fun cdv A outer s H vs Q E hr h => ?_), g, F.bindsN hb⟩
  obtain ⟨t, h1, h2⟩ := hbody f cdv A outer s H vs Q E hr h
  exact ⟨t, PSs.nox h1, h2⟩
end
section
variable {X : Cx} {k j : Nat} {x m : Str} {p pos apos : Pos} {ps : List Str} {sp : Sp} {C : Addr} {e o : Expr} {es : List Expr} {to : TE} {t : TA}
theorem pe_dm {pl : Sem Bool} (D : DnM X.prog X.w X.K X.mg X.base k C m ps sp) (hr : Room j X.A) (hk : k ≤ j) (cl : Cls X.K C) (he : PE X o to) (ha : PA X (e :: es) t)
    (hst : starEach (e :: es) X.env = (false, eval e X.env) :: starEach es X.env := by rfl) (hpl : (backTo pos (starEach es X.env)).any (·.1) = false := by rfl)
    (ht : eval (.Call (.Attribute o m apos) (e :: es) [] pos) X.env = (do
      let ov ← eval o X.env
      standAt apos.atName
      let (f, first) ← holding [ov] (getMethod ov m pl)
      callWith pos f first (backTo pos (starEach (e :: es) X.env)) (backToKw pos (keywordEach [] X.env))) := by rfl) :
    PE X (.Call (.Attribute o m apos) (e :: es) [] pos) (tMeth C m sp [] E0 to t) := by
  obtain ⟨f, fd, F, hm, hb⟩ := D.ex
  exact pe_meth (pl := pl) he cl hm F (hr.mono hk) hb .nil pass0 ha hst hpl ht
theorem pe_di (D : DnI X.prog X.w X.K X.mg X.base k C ps sp) (hr : Room j X.A) (hk : k + 1 ≤ j) (hg : Gl X x) (hm : X.mg x = some (.ref C)) (ha : PA X (e :: es) t)
    (hdb : (x == ("__debug__" : Str)) = false := by decide) (he : starEach (e :: es) X.env = (false, eval e X.env) :: starEach es X.env := by rfl) (hpl : (backTo pos (starEach es X.env)).any (·.1) = false := by rfl) :
    PE X (.Call (.Name x p) (e :: es) [] pos) (tMake C sp [] E0 t) := by
  obtain ⟨f, fd, F, M, hb⟩ := D.ex
  exact pe_make M F (hr.mono hk) hg hm hb .nil pass0 ha (hdb := hdb) (he := he) (hpl := hpl)
theorem pe_di0 (D : DnI X.prog X.w X.K X.mg X.base k C ps sp) (hr : Room j X.A) (hk : k + 1 ≤ j) (hg : Gl X x) (hm : X.mg x = some (.ref C))
    (hdb : (x == ("__debug__" : Str)) = false := by decide) : PE X (.Call (.Name x p) [] [] pos) (tMake C sp [] E0 tNil) := by
  obtain ⟨f, fd, F, M, hb⟩ := D.ex
  exact pe_make0 M F (hr.mono hk) hg hm hb .nil pass0 (hdb := hdb)
end
/-! ### fields -/
theorem putF_len (f : Str) (v : V) : ∀ fs : List (Str × V), (putF f v fs).length ≤ fs.length + 1
  | [] => Nat.le_refl _
  | (g, x) :: r => by
    unfold putF
    split
    · exact Nat.le_succ _
    · have := putF_len f v r
      simp only [List.length_cons]
      omega
theorem putF_same {f : Str} {v x : V} : ∀ {fs : List (Str × V)}, fs.lookup f = some x → (putF f v fs).length = fs.length
  | [], h => by cases h
  | (g, y) :: r, h => by
    unfold putF
    by_cases e : g = f
    · rw [if_pos e]; rfl
    · rw [if_neg e]
      have hb : (f == g) = false := by
        rw [beq_eq_false_iff_ne]
        exact fun z => e z.symm
      rw [List.lookup_cons, hb] at h
      rw [List.length_cons, List.length_cons, putF_same h]
section
variable {K : PySem.W.Frag} {σ : L2.St} {H : Hp} {ta tb te : TE} {v : V} {D : Ends} {tu tz : TS}
theorem ev_fld {a C dx : Addr} {fs : List (Str × V)} {f : Str} (h : Ev te σ H (.ref a)) (ho : H a = some (.ins C dx fs)) (cl : Cls K C) (na : NoAttr K C f) (hl : fs.lookup f = some v) : Ev (tFld K te f) σ H v := fun H1 e Q q =>
  h H1 e _ fun H2 e2 => ⟨a, C, dx, fs, v, rfl, (e.trans e2) a _ ho, cl, na, hl, q H2 e2⟩
theorem s_fld {a C dx : Addr} {fs : List (Str × V)} {f : Str} (h : Ev te σ H v) (ho : Ev ta σ H (.ref a)) (hH : H a = some (.ins C dx fs)) (cl : Cls K C) (na : NoAttr K C f) (hl : fs.length < 1000) (k : ∀ H1, Ex H H1 → D.nx σ (upd H1 a (.ins C dx (putF f v fs)))) : sFld K ta te f D σ H :=
  h H (Ex.refl H) _ fun H1 e1 => ho H1 e1 _ fun H2 e2 => ⟨a, C, dx, fs, rfl, (e1.trans e2) a _ hH, cl, na, hl, k H2 (e1.trans e2)⟩
theorem q_fld {a C dx : Addr} {fs : List (Str × V)} {f : Str} (h : Ev te σ H v) (ho : Ev ta σ H (.ref a)) (hH : H a = some (.ins C dx fs)) (cl : Cls K C) (na : NoAttr K C f) (hl : fs.length < 1000) (k : ∀ H1, Ex H H1 → tz D σ (upd H1 a (.ins C dx (putF f v fs)))) : tSeq (sFld K ta te f) tz D σ H :=
  s_fld (D := { D with nx := tz D }) h ho hH cl na hl k
/-- a new object of any kind -/
def EvN (te : TE) (σ : L2.St) (H : Hp) (o : HO) : Prop := ∀ H1, Ex H H1 → ∀ Q : VK, (∀ p H2, H1 p = none → Ex H1 H2 → H2 p = some o → Q (.ref p) H2) → te σ H1 Q
theorem en_l {xs : List V} (h : EvL te σ H xs) : EvN te σ H (.lst xs) := h
theorem en_u {xs : List V} (h : EvU te σ H xs) : EvN te σ H (.tup xs) := h
theorem en_dT : EvN tDNewT σ H (.dT []) := fun H1 e Q q p hp => q p _ hp (Ex.new hp) upd_same
theorem s_fldN {a C dx : Addr} {fs : List (Str × V)} {f : Str} {o : HO} (h : EvN te σ H o) (ho : Ev ta σ H (.ref a)) (hH : H a = some (.ins C dx fs)) (cl : Cls K C) (na : NoAttr K C f) (hl : fs.length < 1000)
    (k : ∀ p H1, H p = none → Ex H H1 → H1 p = some o → D.nx σ (upd H1 a (.ins C dx (putF f (.ref p) fs)))) : sFld K ta te f D σ H :=
  h H (Ex.refl H) _ fun p H1 hp e1 h1 => ho H1 e1 _ fun H2 e2 => ⟨a, C, dx, fs, rfl, (e1.trans e2) a _ hH, cl, na, hl, k p H2 hp (e1.trans e2) (e2 _ _ h1)⟩
theorem q_fldN {a C dx : Addr} {fs : List (Str × V)} {f : Str} {o : HO} (h : EvN te σ H o) (ho : Ev ta σ H (.ref a)) (hH : H a = some (.ins C dx fs)) (cl : Cls K C) (na : NoAttr K C f) (hl : fs.length < 1000)
    (k : ∀ p H1, H p = none → Ex H H1 → H1 p = some o → tz D σ (upd H1 a (.ins C dx (putF f (.ref p) fs)))) : tSeq (sFld K ta te f) tz D σ H :=
  s_fldN (D := { D with nx := tz D }) h ho hH cl na hl k
theorem q_asgN {i : Nat} {o : HO} (h : EvN te σ H o) (k : ∀ p H1, H p = none → Ex H H1 → H1 p = some o → tz D (σ.set i (some (.ref p))) H1) : tSeq (tAsg te (gName i)) tz D σ H := h H (Ex.refl H) _ k
end
/-! ### dicts whose keys are pairs -/
abbrev kPair (r : Nat × Nat) : List Key := [Sum.inl (r.1 : Int), Sum.inr (S [r.2])]
abbrev rowV (r : Nat × Nat) : List V := [.int (r.1 : Int), .str (S [r.2])]
theorem kPair_V (r : Nat × Nat) : (kPair r).map kV = rowV r := rfl
theorem kPair_inj {r q : Nat × Nat} (h : kPair r = kPair q) : r = q := by
  injection h with h1 h2
  injection h1 with h1
  injection h2 with h2 _
  injection h2 with h2
  have h3 := S_inj h2
  have e1 : r.1 = q.1 := by omega
  have e2 : r.2 = q.2 := by simpa using h3
  exact Prod.ext e1 e2
def numKV : Nat → List (Nat × Nat) → List (List Key × V)
  | _, [] => []
  | n, r :: rs => (kPair r, .int (n : Int)) :: numKV (n + 1) rs
theorem numKV_at : ∀ (n : Nat) (rs : List (Nat × Nat)) (x : Nat × Nat), valV (numKV n rs) (kPair x) = (ixR n rs x).map fun (k : Nat) => V.int (k : Int)
  | _, [], _ => rfl
  | n, r :: rs, x => by
    show valV ((kPair r, V.int (n : Int)) :: numKV (n + 1) rs) (kPair x) = (ixR n (r :: rs) x).map _
    unfold ixR
    by_cases e : r = x
    · rw [if_pos e, valV_pos (congrArg kPair e)]; rfl
    · rw [if_neg e, valV_neg (fun z => e (kPair_inj z)), numKV_at (n + 1) rs x]
theorem numKV_snoc : ∀ (n : Nat) (rs : List (Nat × Nat)) (r : Nat × Nat), numKV n (rs ++ [r]) = numKV n rs ++ [(kPair r, .int ((n + rs.length : Nat) : Int))]
  | n, [], r => rfl
  | n, q :: rs, r => by
    show (kPair q, _) :: numKV (n + 1) (rs ++ [r]) = _
    rw [numKV_snoc (n + 1) rs r, List.length_cons, show n + 1 + rs.length = n + (rs.length + 1) by omega]
    rfl
theorem numKV_len : ∀ (n : Nat) (rs : List (Nat × Nat)), (numKV n rs).length = rs.length
  | _, [] => rfl
  | n, r :: rs => congrArg Nat.succ (numKV_len (n + 1) rs)
/-! ### rows as tuples -/
abbrev rV (as : List Addr) : List V := as.map V.ref
def RowsAt (H : Hp) : List Addr → List (Nat × Nat) → Prop
  | [], [] => True
  | a :: as, r :: rs => H a = some (.tup (rowV r)) ∧ RowsAt H as rs
  | _, _ => False
theorem RowsAt.ex {H H' : Hp} (e : Ex H H') : ∀ {as : List Addr} {rs : List (Nat × Nat)}, RowsAt H as rs → RowsAt H' as rs
  | [], [], _ => trivial
  | _ :: _, _ :: _, h => ⟨e _ _ h.1, h.2.ex e⟩
  | [], _ :: _, h => h.elim
  | _ :: _, [], h => h.elim
theorem RowsAt.len {H : Hp} : ∀ {as : List Addr} {rs : List (Nat × Nat)}, RowsAt H as rs → as.length = rs.length
  | [], [], _ => rfl
  | _ :: _, _ :: _, h => congrArg Nat.succ h.2.len
  | [], _ :: _, h => h.elim
  | _ :: _, [], h => h.elim
theorem RowsAt.get {H : Hp} : ∀ {as : List Addr} {rs : List (Nat × Nat)}, RowsAt H as rs → ∀ {i : Nat} {x : V}, (rV as)[i]? = some x → ∃ a r, x = .ref a ∧ rs[i]? = some r ∧ H a = some (.tup (rowV r))
  | [], [], _, i, x, h => by cases h
  | a :: as, r :: rs, h, 0, x, hx => ⟨a, r, (Option.some.inj hx).symm, rfl, h.1⟩
  | a :: as, r :: rs, h, i + 1, x, hx => h.2.get (i := i) hx
  | [], _ :: _, h, _, _, _ => h.elim
  | _ :: _, [], h, _, _, _ => h.elim
theorem RowsAt.snoc {H : Hp} {a : Addr} {r : Nat × Nat} (ha : H a = some (.tup (rowV r))) : ∀ {as : List Addr} {rs : List (Nat × Nat)}, RowsAt H as rs → RowsAt H (as ++ [a]) (rs ++ [r])
  | [], [], _ => ⟨ha, trivial⟩
  | _ :: _, _ :: _, h => ⟨h.1, h.2.snoc ha⟩
  | [], _ :: _, h => h.elim
  | _ :: _, [], h => h.elim
/-- all that stands in H stands in H', but for these three -/
def But3 (H H' : Hp) (p l d : Addr) : Prop := ∀ b o, H b = some o → b ≠ p → b ≠ l → b ≠ d → H' b = some o
theorem RowsAt.but {H H' : Hp} {p l d : Addr} (e : But3 H H' p l d) (hp : ∀ xs, H p ≠ some (.tup xs)) (hl : ∀ xs, H l ≠ some (.tup xs)) (hd : ∀ xs, H d ≠ some (.tup xs)) : ∀ {as : List Addr} {rs : List (Nat × Nat)}, RowsAt H as rs → RowsAt H' as rs
  | [], [], _ => trivial
  | a :: _, _ :: _, h => ⟨e _ _ h.1 (fun z => hp _ (z ▸ h.1)) (fun z => hl _ (z ▸ h.1)) (fun z => hd _ (z ▸ h.1)), h.2.but e hp hl hd⟩
  | [], _ :: _, h => h.elim
  | _ :: _, [], h => h.elim
end My
namespace My
open PySem PySem.Spec PyProof.Rows L2 Evl
open SX (S S_len S_cat S_beq S_beq_eq S_inj S_tl)
/-! ### for i, c in enumerate(text); for i, (a, b) in enumerate(rows); for a, b in rows -/
section
variable {K : PySem.W.Frag} {σ : L2.St} {H : Hp} {te : TE} {D : Ends} {tu tz : TS} {g : TG}
theorem g_two {i j : Nat} {T : Addr} {x y : V} {Q : L2.St → Hp → Prop} (h : H T = some (.tup [x, y])) (q : Q ((σ.set i (some x)).set j (some y)) H) : gTup K 2 (gCons (gName i) (gCons (gName j) gNil)) (.ref T) σ H Q :=
  ⟨T, [x, y], rfl, st_of h, rfl, x, [y], rfl, y, [], rfl, rfl, q⟩
theorem g_three {i j k : Nat} {T a : Addr} {x y z : V} {Q : L2.St → Hp → Prop} (h : H T = some (.tup [x, .ref a])) (h2 : H a = some (.tup [y, z])) (q : Q (((σ.set i (some x)).set j (some y)).set k (some z)) H) :
    gTup K 2 (gCons (gName i) (gCons (gTup K 2 (gCons (gName j) (gCons (gName k) gNil))) gNil)) (.ref T) σ H Q :=
  ⟨T, [x, .ref a], rfl, st_of h, rfl, x, [.ref a], rfl, .ref a, [], rfl, a, [y, z], rfl, st_of h2, rfl, y, [z], rfl, z, [], rfl, rfl, rfl, q⟩
theorem s_forES {l : List Nat} (h : Ev te σ H (.str (S l))) (Pv : Nat → L2.St → Hp → Prop) (h0 : ∀ H1, Ex H H1 → Pv 0 σ H1)
    (hs : ∀ n c σ' H', l[n]? = some c → Pv n σ' H' → ∀ T H1, Ex H' H1 → H1 T = some (.tup [.int (n : Nat), .str (S [c])]) → g (.ref T) σ' H1 fun σ2 H2 => tu { D with nx := Pv (n + 1), ct := Pv (n + 1), bk := D.nx } σ2 H2)
    (hd : ∀ σ' H', Pv l.length σ' H' → D.nx σ' H') : tFor (iEnumS (tCons te tNil)) g tu D σ H :=
  h H (Ex.refl H) _ fun H1 e => ⟨S l, rfl, fun n m σ H => m = l.length - n ∧ n ≤ l.length ∧ Pv n σ H, ⟨l.length, by simp, Nat.zero_le _, h0 H1 e⟩, by
    rintro n m σ' H' ⟨rfl, hn, p⟩
    by_cases hlt : n < l.length
    · refine .inr ⟨by show n < (S l).cps.size; rw [← Array.length_toList]; exact hlt, Pv (n + 1), fun σ2 H2 p2 => ⟨l.length - (n + 1), by omega, rfl, hlt, p2⟩, fun y H2 hy => ?_⟩
      obtain ⟨T, c, rfl, hT, rfl, hc⟩ := hy
      rw [← Array.getElem?_toList] at hc
      exact hs n c σ' H' hc p T _ (Ex.new hT) upd_same
    · have e1 : n = l.length := by omega
      subst e1
      exact .inl ⟨by show (S l).cps.size ≤ l.length; rw [← Array.length_toList]; exact Nat.le_refl _, hd σ' H' p⟩⟩
theorem s_forET {a : Addr} {xs : List V} (h : Ev te σ H (.ref a)) (hx : SqT K H a xs) (Pv : Nat → L2.St → Hp → Prop) (h0 : ∀ H1, Ex H H1 → Pv 0 σ H1) (hl : ∀ n σ' H', Pv n σ' H' → SqT K H' a xs)
    (hs : ∀ n x σ' H', xs[n]? = some x → Pv n σ' H' → ∀ T H1, Ex H' H1 → H1 T = some (.tup [.int (n : Nat), x]) → g (.ref T) σ' H1 fun σ2 H2 => tu { D with nx := Pv (n + 1), ct := Pv (n + 1), bk := D.nx } σ2 H2)
    (hd : ∀ σ' H', Pv xs.length σ' H' → D.nx σ' H') : tFor (iEnumT K (tCons te tNil)) g tu D σ H :=
  h H (Ex.refl H) _ fun H1 e => ⟨a, xs, rfl, ex_t e hx, fun n m σ H => m = xs.length - n ∧ n ≤ xs.length ∧ Pv n σ H, ⟨xs.length, by simp, Nat.zero_le _, h0 H1 e⟩, by
    rintro n m σ' H' ⟨rfl, hn, p⟩
    by_cases hlt : n < xs.length
    · refine .inr ⟨⟨xs, xs[n], hl n σ' H' p, List.getElem?_eq_getElem hlt⟩, Pv (n + 1), fun σ2 H2 p2 => ⟨xs.length - (n + 1), by omega, rfl, hlt, p2⟩, fun y H2 hy => ?_⟩
      obtain ⟨T, x, rfl, hT, rfl, hc⟩ := hy
      exact hs n x σ' H' (hc xs (hl n σ' H' p)) p T _ (Ex.new hT) upd_same
    · have e1 : n = xs.length := by omega
      subst e1
      exact .inl ⟨⟨xs, hl _ σ' H' p, Nat.le_refl _⟩, hd σ' H' p⟩⟩
theorem s_dputT {tv td ty : TE} {d b : Addr} {kvs : List (List Key × V)} {k : List Key} {v : V} (hv : Ev tv σ H v) (ho : Ev td σ H (.ref d)) (hi : Ev ty σ H (.ref b)) (hd : H d = some (.dT kvs)) (hb : H b = some (.tup (k.map kV))) (hl : kvs.length < sizeLine)
    (kk : ∀ H1, Ex H H1 → D.nx σ (upd H1 d (.dT (putK kvs k v)))) : sDPut td ty tv D σ H :=
  hv H (Ex.refl H) _ fun H1 e1 => ho H1 e1 _ fun H2 e2 => hi H2 (e1.trans e2) _ fun H3 e3 => ⟨d, _, rfl, DPut.t (((e1.trans e2).trans e3) _ _ hd) (((e1.trans e2).trans e3) _ _ hb) hl, kk H3 ((e1.trans e2).trans e3)⟩
theorem q_dputT {tv td ty : TE} {d b : Addr} {kvs : List (List Key × V)} {k : List Key} {v : V} (hv : Ev tv σ H v) (ho : Ev td σ H (.ref d)) (hi : Ev ty σ H (.ref b)) (hd : H d = some (.dT kvs)) (hb : H b = some (.tup (k.map kV))) (hl : kvs.length < sizeLine)
    (kk : ∀ H1, Ex H H1 → tz D σ (upd H1 d (.dT (putK kvs k v)))) : tSeq (sDPut td ty tv) tz D σ H := s_dputT (D := { D with nx := tz D }) hv ho hi hd hb hl kk
/-- d[a, b] = v, the pair a new tuple -/
theorem s_dputU {tv td ty : TE} {d : Addr} {kvs : List (List Key × V)} {k : List Key} {v : V} (hv : Ev tv σ H v) (ho : Ev td σ H (.ref d)) (hi : EvU ty σ H (k.map kV)) (hd : H d = some (.dT kvs)) (hl : kvs.length < sizeLine)
    (kk : ∀ H1, Ex H H1 → D.nx σ (upd H1 d (.dT (putK kvs k v)))) : sDPut td ty tv D σ H :=
  hv H (Ex.refl H) _ fun H1 e1 => ho H1 e1 _ fun H2 e2 => hi H2 (e1.trans e2) _ fun b H3 hb0 e3 hb => ⟨d, _, rfl, DPut.t (((e1.trans e2).trans e3) _ _ hd) hb hl, kk H3 ((e1.trans e2).trans e3)⟩
/-- (a, b) in d -/
theorem ev_dinU {ta tb : TE} {d : Addr} {kvs : List (List Key × V)} {k : List Key} (ha : EvU ta σ H (k.map kV)) (hb : Ev tb σ H (.ref d)) (hd : H d = some (.dT kvs)) : Ev (tDIn ta tb) σ H (.bl (valV kvs k).isSome) := fun H1 e Q q =>
  ha H1 e _ fun b H2 hb0 e2 h2 => hb H2 (e.trans e2) _ fun H3 e3 => ⟨d, _, rfl, DGet.t (((e.trans e2).trans e3) _ _ hd) (e3 _ _ h2), q H3 (e2.trans e3)⟩
theorem put_lt1 (f : Str) (v : V) : (putF f v []).length < 1000 := by
  have := putF_len f v []
  simp only [List.length_nil] at this
  omega
theorem put_lt2 (f g : Str) (v u : V) : (putF f v (putF g u [])).length < 1000 := by
  have := putF_len f v (putF g u [])
  have := putF_len g u []
  simp only [List.length_nil] at this
  omega
theorem s_retMake {C : Addr} {sp : Sp} {E : XK} {t : TA} {vs : List V} (h : EvA t σ H vs) (k : ∀ H1, Ex H H1 → ∀ x dx, H1 x = none → H1 dx = none → dx ≠ x → sp (.ref x :: (vs ++ [])) (upd (upd H1 dx (.own x)) x (.ins C dx [])) (fun v H2 => v = .non ∧ D.rt (.ref x) H2) E) : tRet (tMake C sp [] E t) D σ H :=
  h H (Ex.refl H) _ fun H1 e1 => k H1 e1
end
end My

set_option Elab.async false
set_option linter.all false
set_option maxRecDepth 100000
set_option maxHeartbeats 4000000
namespace My
open PySem PySem.Spec PyProof.Rows L2 Evl
open SX (S S_len S_cat S_beq S_beq_eq S_inj S_tl)
def top (i : Nat) : Stmt := PySem.Challenge.pw_unpressed_k07_text_with_count.main.body.getD i (.Pass ⟨0, 0, 0, 0⟩)

abbrev LETS : Str := "0123456789abcdefghijklmnopqrstuvwxyz"
def L36c : List Nat := LETS.cps.toList
theorem LETS_S : LETS = S L36c := (S_tl LETS).symm
/-- what the program takes from its modules -/
structure TC (K : PySem.W.Frag) (mg : Str → Option Value) (CG CC : Addr) : Prop extends TT mg where
  gLETTERS : ∃ u, mg "LETTERS" = some u ∧ RelV (.str LETS) u
  gGREATEST_SIZE : ∃ u, mg "GREATEST_SIZE" = some u ∧ RelV (.int 6) u
def AbcOk (l : List Nat) : Prop := 1 ≤ l.length ∧ l.length ≤ 6 ∧ (∀ c ∈ l, c ∈ L36c) ∧ l.Pairwise (· < ·)
theorem S_cps (l : List Nat) : (S l).cps.toList = l := rfl
theorem S_get (l : List Nat) (i : Nat) : (S l).cps[i]? = l[i]? := by
  rw [← Array.getElem?_toList]
theorem S_size (l : List Nat) : (S l).cps.size = l.length := by
  rw [← Array.length_toList]
section
variable {K : PySem.W.Frag} {σ : L2.St} {H : Hp} {ta tb te : TE} {v : V} {D : Ends} {tu tz : TS}
def rInS : R2 := fun x y H Q => ∃ i j, x = .str i ∧ y = .str j ∧ Q (.bl (!(Builtin.Str.occurrences j i 0 j.length 1).isEmpty)) H
def rNiS : R2 := fun x y H Q => ∃ i j, x = .str i ∧ y = .str j ∧ Q (.bl (!(!(Builtin.Str.occurrences j i 0 j.length 1).isEmpty))) H
theorem rv_inS {l : List Nat} {c : Nat} : RV rInS (.str (S [c])) (.str (S l)) H (.bl (decide (c ∈ l))) := fun H1 _ Q q => ⟨S [c], S l, rfl, rfl, by rw [SX.in_one]; exact q H1 (Ex.refl H1)⟩
theorem rv_niS {l : List Nat} {c : Nat} : RV rNiS (.str (S [c])) (.str (S l)) H (.bl (!decide (c ∈ l))) := fun H1 _ Q q => ⟨S [c], S l, rfl, rfl, by rw [SX.in_one]; exact q H1 (Ex.refl H1)⟩
def rLeS : R2 := fun x y H Q => ∃ i j, x = .str i ∧ y = .str j ∧ Q (.bl (!decide (j.cps.toList < i.cps.toList))) H
theorem rv_leS {a b : List Nat} : RV rLeS (.str (S a)) (.str (S b)) H (.bl (!decide (b < a))) := fun H1 _ Q q => ⟨S a, S b, rfl, rfl, q H1 (Ex.refl H1)⟩
end
section
variable {P : Program} {w : World} {K : PySem.W.Frag} {mg : Str → Option Value} {base : Heap}

variable {CG CC : Addr}
abbrev s_is_alphabet : Stmt := top 14
abbrev N_is_alphabet : List Str := ["alphabet", "previous", "letter"]
theorem sc_is_alphabet : FnScope N_is_alphabet ["alphabet"] (defScope s_is_alphabet) := ⟨rfl, rfl, rfl, by decide +kernel, rfl, by decide +kernel, by decide +kernel⟩
def spIsA : Sp := fun vs H Q _ => ∃ abc : List Nat, vs = [.str (S abc)] ∧ AbcOk abc ∧ RetV (.bl true) H Q
theorem sv_isA {abc : List Nat} {H : Hp} (h : AbcOk abc) : SpV spIsA [.str (S abc)] H (.bl true) := fun _ _ _ q _ => ⟨abc, rfl, h, q⟩
theorem ok_is_alphabet (T : TC K mg CG CC) (F : At K mg "is_alphabet" s_is_alphabet) : Dn P w K mg base 1 "is_alphabet" s_is_alphabet ["alphabet"] spIsA := by
  refine dn_ok F sc_is_alphabet (fun _ _ _ _ _ _ us hl => match us, hl with | [_], _ => rfl) (fun vs H Q E h => ?_) (fun f cdv A outer t H vs Q E hr h => ?_)
  · obtain ⟨abc, rfl, _⟩ := h; rfl
  · obtain ⟨abc, rfl, ⟨a1, a6, aL, ap⟩, q⟩ := h
    refine ⟨_, (pss_cons (ps_if (pt_not (pt_chain op_le op_le pe_int (pe_callB call_len_str (by rfl) T.len boot_len (pa_cons (pv 0) pa_nil)) (C8.pe_gc rfl T.gGREATEST_SIZE))) (pss_one (ps_ret pe_bl)) pss_nil)
      (pss_cons (ps_set (i := 1) sc_is_alphabet.nd rfl (Or.inl rfl) pe_str)
      (pss_cons (ps_for PassesOwn.never rfl (pi_str (pv 0)) (pg_name (i := 2) sc_is_alphabet.nd rfl (Or.inl rfl))
        (pss_cons (ps_if (PW.pt (pw_or (pt_cmpR op_notIn_str (pv 2) (C8.pe_gc rfl T.gLETTERS) (by rfl)) (pw_or1 (pt_cmpR op_le_str (pv 2) (pv 1) (nomark _))))) (pss_one (ps_ret pe_bl)) pss_nil)
          (pss_one (ps_set (i := 1) sc_is_alphabet.nd rfl (Or.inl rfl) (pv 2)))))
      (pss_one (ps_ret pe_bl))))), ?_⟩
    have hl : Ev (tCB (fun xs H Q => ∃ z : Str, xs = [.str z] ∧ z.length ≤ sizeLine ∧ Q (.int z.length) H) (tCons (tVar 0) tNil)) (start N_is_alphabet [V.str (S abc)]) H (.int ((abc.length : Nat) : Int)) := ev_is (ev_lenStr (ev_var rfl) (by rw [S_len]; show abc.length ≤ 16777216; omega)) (by rw [S_len])
    refine q_when (b := !(decide ((1 : Int) ≤ ((abc.length : Nat) : Int)) && decide (((abc.length : Nat) : Int) ≤ 6))) (et_not (et_chain ev_c hl ev_c rv_I0 rv_I0)) (fun hb H1 e1 => ?_) (fun _ H1 e1 => ?_)
    · rw [decide_eq_true (by omega), decide_eq_true (by omega)] at hb
      exact absurd hb (by decide)
    refine q_asg (v := .str (S [])) (ev_is ev_c rfl) fun H2 e2 => ?_
    refine q_forS (ev_var rfl) (fun i σ' H' => ∃ (pr : List Nat) (v : Option V), σ' = [some (.str (S abc)), some (.str (S pr)), v] ∧ Ex H H' ∧ (pr = [] ∨ ∃ a, pr = [a] ∧ 1 ≤ i ∧ abc[i - 1]? = some a))
      (fun H3 e3 => ⟨[], none, rfl, (e1.trans e2).trans e3, Or.inl rfl⟩) ?_ ?_
    · rintro i c σ' H' hc ⟨pr, v, rfl, e, hpr⟩
      rw [S_get] at hc
      have hcm := aL c (List.mem_of_getElem? hc)
      have hlt : pr < [c] := by
        rcases hpr with rfl | ⟨a, rfl, hi, ha⟩
        · exact List.nil_lt_cons c []
        · have hi1 := (List.getElem?_eq_some_iff.mp hc)
          have hi2 := (List.getElem?_eq_some_iff.mp ha)
          obtain ⟨h1, h2⟩ := hi1
          obtain ⟨h3, h4⟩ := hi2
          have h5 := List.pairwise_iff_getElem.mp ap (i - 1) i h3 h1 (by omega)
          rw [h2, h4] at h5
          exact List.cons_lt_cons_iff.mpr (Or.inl h5)
      refine q_when (b := false || false) (et_or (et_test (ev_is (ev_op (r := rNiS) (ev_var rfl) (ev_is ev_c (congrArg V.str LETS_S)) rv_niS) (by rw [decide_eq_true hcm]; rfl))) fun _ => et_test (ev_is (ev_op (r := rLeS) (ev_var rfl) (ev_var rfl) rv_leS) (by rw [decide_eq_true hlt]; rfl))) (fun hb => absurd hb (by decide)) fun _ H3 e3 => ?_
      exact s_asg (ev_var rfl) fun H4 e4 => ⟨[c], _, rfl, (e.trans e3).trans e4, Or.inr ⟨c, rfl, by omega, by rw [Nat.add_sub_cancel]; exact hc⟩⟩
    · rintro σ' H' ⟨pr, v, rfl, e, _⟩
      exact s_ret ev_c fun H4 e4 => q H4 (e.trans e4)
abbrev s_check_alphabet : Stmt := top 15
abbrev N_check_alphabet : List Str := ["alphabet"]
theorem sc_check_alphabet : FnScope N_check_alphabet ["alphabet"] (defScope s_check_alphabet) := ⟨rfl, rfl, rfl, by decide +kernel, rfl, by decide +kernel, by decide +kernel⟩
def spChA : Sp := fun vs H Q _ => ∃ abc : List Nat, vs = [.str (S abc)] ∧ AbcOk abc ∧ RetV .non H Q
theorem sv_chA {abc : List Nat} {H : Hp} (h : AbcOk abc) : SpV spChA [.str (S abc)] H .non := fun _ _ _ q _ => ⟨abc, rfl, h, q⟩
theorem ok_check_alphabet (D_is_alphabet : Dn P w K mg base 1 "is_alphabet" s_is_alphabet ["alphabet"] spIsA) (F : At K mg "check_alphabet" s_check_alphabet) : Dn P w K mg base 2 "check_alphabet" s_check_alphabet ["alphabet"] spChA := by
  refine dn_ok F sc_check_alphabet (fun _ _ _ _ _ _ us hl => match us, hl with | [_], _ => rfl) (fun vs H Q E h => ?_) (fun f cdv A outer t H vs Q E hr h => ?_)
  · obtain ⟨abc, rfl, _⟩ := h; rfl
  · obtain ⟨abc, rfl, ha, q⟩ := h
    refine ⟨_, (pss_one (ps_if (pt_not (pt_val (pe_dn D_is_alphabet hr (by decide) rfl (pa_cons (pv 0) pa_nil)))) (pss_one ps_never) pss_nil)), ?_⟩
    exact s_when (b := !true) (et_not (et_B (ev_call (ea_cons (ev_var rfl) ea_nil) (sv_isA ha)))) (fun hb => absurd hb (by decide)) fun _ H1 e1 => q H1 e1
end
end My

set_option Elab.async false
set_option linter.all false
set_option maxRecDepth 100000
set_option maxHeartbeats 4000000
namespace My
open PySem PySem.Spec PyProof.Rows L2 Evl
open SX (S S_len S_cat S_beq S_beq_eq S_inj S_tl)

/-! ### letters that come from a text -/
def Sub (m l : List Nat) : Prop := ∀ c ∈ m, c ∈ l
theorem Sub.refl (l : List Nat) : Sub l l := fun _ h => h
theorem Sub.nil (l : List Nat) : Sub [] l := fun _ h => absurd h List.not_mem_nil
theorem Sub.one {c : Nat} {l : List Nat} (h : c ∈ l) : Sub [c] l := fun d hd => by rw [List.mem_singleton.mp hd]; exact h
theorem Sub.app {a b l : List Nat} (h1 : Sub a l) (h2 : Sub b l) : Sub (a ++ b) l := fun c hc => (List.mem_append.mp hc).elim (h1 c) (h2 c)
theorem Sub.trans {a b l : List Nat} (h1 : Sub a b) (h2 : Sub b l) : Sub a l := fun c hc => h2 c (h1 c hc)
theorem Sub.cut (a : List Nat) (lo hi : Option Int) : Sub (cutL a lo hi) a := fun c hc => List.mem_of_mem_drop (List.mem_of_mem_take hc)
theorem Sub.rep {a l : List Nat} (n : Nat) (h : Sub a l) : Sub (List.replicate n a).flatten l := fun c hc => by
  obtain ⟨b, hb, hcb⟩ := List.mem_flatten.mp hc
  rw [(List.mem_replicate.mp hb).2] at hcb
  exact h c hcb
theorem Sub.flat {g : Nat → List Nat} {l : List Nat} {n : Nat} (h : ∀ i, i < n → Sub (g i) l) : Sub ((List.range n).map g).flatten l := fun c hc => by
  obtain ⟨b, hb, hcb⟩ := List.mem_flatten.mp hc
  obtain ⟨i, hi, rfl⟩ := List.mem_map.mp hb
  exact h i (List.mem_range.mp hi) c hcb
/-! ### sorted letters -/
theorem rising_pair : ∀ (x : Nat) (cs : List Nat), risingS (S [x]) (cs.map fun c => S [c]) = true → (∀ c ∈ cs, x ≤ c) ∧ cs.Pairwise (· ≤ ·)
  | x, [], _ => ⟨fun _ h => absurd h List.not_mem_nil, .nil⟩
  | x, c :: cs, h => by
    have h1 : (!ltCps (S [c]).cps.toList (S [x]).cps.toList && risingS (S [c]) (cs.map fun c => S [c])) = true := h
    rw [Bool.and_eq_true] at h1
    obtain ⟨h2, h3⟩ := h1
    obtain ⟨a, b⟩ := rising_pair c cs h3
    have hxc : x ≤ c := by
      rw [ltCps_eq, Bool.not_eq_true', decide_eq_false_iff_not] at h2
      refine Nat.le_of_not_lt fun z => h2 ?_
      show [c] < [x]
      exact List.cons_lt_cons_iff.mpr (Or.inl z)
    refine ⟨fun d hd => ?_, List.Pairwise.cons a b⟩
    rcases List.mem_cons.mp hd with rfl | hd
    · exact hxc
    · exact Nat.le_trans hxc (a d hd)
theorem sorted_pair {cs : List Nat} (h : sortedS (cs.map fun c => S [c]) = true) : cs.Pairwise (· ≤ ·) := by
  cases cs with
  | nil => exact .nil
  | cons c cs =>
    obtain ⟨a, b⟩ := rising_pair c cs h
    exact List.Pairwise.cons a b
theorem flat_ones (cs : List Nat) : (cs.map fun c => [c]).flatten = cs := by
  induction cs with
  | nil => rfl
  | cons c cs ih => rw [List.map_cons, List.flatten_cons, ih]; rfl
/-- ''.join(sorted(xs)), the items letters -/
theorem ev_joinLetters {K : PySem.W.Frag} {σ : L2.St} {H : Hp} {ta tb : TE} {p : Addr} {cs : List Nat} {Q : VK} (ho : Ev ta σ H (.str (S []))) (hb : Ev tb σ H (.ref p)) (h : SqL K H p (sV (cs.map fun c => [c]))) (h64 : cs.length < 64)
    (q : ∀ (l : List Nat) H2, l.Perm cs → l.Pairwise (· ≤ ·) → Ex H H2 → Q (.str (S l)) H2) : (tM1 (rJoin K) ta (tCB (rSortedS K) (tCons tb tNil))) σ H Q :=
  ho H (Ex.refl H) _ fun H1 e1 => ⟨⟨_, rfl⟩, hb H1 e1 _ fun H2 e2 => ⟨p, cs.map fun c => S [c], rfl, by
    have e : (cs.map fun c => S [c]).map V.str = sV (cs.map fun c => [c]) := by simp [sV, List.map_map, Function.comp_def]
    rw [e]
    exact ex_l (e1.trans e2) h, by rw [List.length_map]; exact h64, fun ys d perm srt hd => by
    obtain ⟨l, hl, rfl⟩ : ∃ l : List Nat, l.Perm cs ∧ ys = l.map fun c => S [c] := by
      refine ⟨ys.map fun y => y.cps.toList.headD 0, ?_, ?_⟩
      · have := perm.map fun y => y.cps.toList.headD 0
        rw [List.map_map] at this
        have e : (List.map ((fun y : Str => y.cps.toList.headD 0) ∘ fun c => S [c]) cs) = cs := by
          refine (List.map_congr_left fun c _ => ?_).trans (List.map_id cs)
          rfl
        rw [e] at this
        exact this
      · rw [List.map_map]
        refine (List.map_id ys).symm.trans (List.map_congr_left fun y hy => ?_)
        obtain ⟨c, _, rfl⟩ := List.mem_map.mp (perm.mem_iff.mp hy)
        rfl
    have hlen : l.length = cs.length := hl.length_eq
    refine ⟨S [], d, l.map fun c => S [c], rfl, rfl, Or.inl (sq_of upd_same), ?_, ?_⟩
    · have e : (S ([] : List Nat)).length = 0 := rfl
      have e2' : ∀ l : List Nat, ((l.map fun c => S [c]).map (·.length)).sum = l.length := by
        intro l
        induction l with
        | nil => rfl
        | cons c l ih => rw [List.map_cons, List.map_cons, List.sum_cons, ih, List.length_cons]; show 1 + _ = _; omega
      rw [e, Nat.mul_zero, e2']
      omega
    · have e3 : (l.map fun c => S [c]) = (l.map fun c => [c]).map S := by rw [List.map_map]; rfl
      rw [e3, SX.join_S, joinL_nil, flat_ones]
      exact q l _ hl (sorted_pair srt) ((e1.trans e2).trans (Ex.new hd))⟩⟩
theorem L36c_len : L36c.length = 36 := by decide +kernel
theorem L36c_nodup : L36c.Nodup := by decide +kernel
theorem at_L36 {H : Hp} {i : Int} (h0 : 0 ≤ i) (h1 : i < 36) : RV rIxS (.str LETS) (.int i) H (.str (S [L36c.getD i.toNat 0])) := by
  have e : LETS.cps.toList = L36c := rfl
  refine rv_ixS (by decide +kernel) ?_
  rw [e]
  obtain ⟨j, rfl⟩ : ∃ j : Nat, i = (j : Int) := ⟨i.toNat, by omega⟩
  rw [Int.toNat_natCast, List.getD_eq_getElem?_getD]
  have hj : j < L36c.length := by rw [L36c_len]; omega
  rw [List.getElem?_eq_getElem hj]
  exact atI_nat (List.getElem?_eq_getElem hj)
theorem in_sV {ls : List Nat} (c : Nat) : inV (.str (S [c])) (sV (ls.map fun c => [c])) = decide (c ∈ ls) := by
  unfold inV
  induction ls with
  | nil => rfl
  | cons a ls ih =>
    have e0 : sV ((a :: ls).map fun c => [c]) = .str (S [a]) :: sV (ls.map fun c => [c]) := rfl
    rw [e0, List.any_cons, ih]
    have e : eqV (.str (S [a])) (.str (S [c])) = (S [a] == S [c]) := rfl
    rw [e, S_beq]
    by_cases h : a = c
    · subst h; simp
    · have h2 : ¬ c = a := fun z => h z.symm
      simp [h, h2]
/-- six letters in a row around the 36 can't all be among five -/
theorem walk_free {ls : List Nat} {a : Nat} (hl : ls.length ≤ 5) (h : ∀ t, t < 6 → L36c.getD ((a + t) % 36) 0 ∈ ls) : False := by
  have hsub : ((List.range 6).map fun t => L36c.getD ((a + t) % 36) 0) ⊆ ls := fun c hc => by
    obtain ⟨t, ht, rfl⟩ := List.mem_map.mp hc
    exact h t (List.mem_range.mp ht)
  have hnd : ((List.range 6).map fun t => L36c.getD ((a + t) % 36) 0).Nodup := by
    rw [List.nodup_iff_pairwise_ne, List.pairwise_map]
    refine List.Pairwise.imp_of_mem (fun {x y} hx hy hxy => ?_) (List.nodup_iff_pairwise_ne.mp List.nodup_range)
    intro e
    have hx6 := List.mem_range.mp hx
    have hy6 := List.mem_range.mp hy
    have h1 : (a + x) % 36 < L36c.length := by rw [L36c_len]; exact Nat.mod_lt _ (by decide)
    have h2 : (a + y) % 36 < L36c.length := by rw [L36c_len]; exact Nat.mod_lt _ (by decide)
    rw [List.getD_eq_getElem?_getD, List.getElem?_eq_getElem h1, List.getD_eq_getElem?_getD, List.getElem?_eq_getElem h2] at e
    have := nodup_idx L36c_nodup h1 h2 e
    omega
  have := hnd.length_le_of_subset hsub
  rw [List.length_map, List.length_range] at this
  omega
section
variable {P : Program} {w : World} {K : PySem.W.Frag} {mg : Str → Option Value} {base : Heap}
/-! ### _law_whole -/
/-! ### _law_cell -/
abbrev s_law_cell : Stmt := top 23
abbrev N_law_cell : List Str := ["script", "k", "seed", "cell"]
theorem sc_law_cell : FnScope N_law_cell ["script", "k"] (defScope s_law_cell) := ⟨rfl, rfl, rfl, by decide +kernel, rfl, by decide +kernel, by decide +kernel⟩
theorem ok_law_cell (T : TT mg) (F : At K mg "_law_cell" s_law_cell) : Dn P w K mg base 1 "_law_cell" s_law_cell ["script", "k"] (spCellF K) := by
  refine dn_ok F sc_law_cell (fun _ _ _ _ _ _ us hl => match us, hl with | [_, _], _ => rfl) (fun vs H Q E h => ?_) (fun f cdv A outer s H vs Q E hr h => ?_)
  · obtain ⟨a, ns, k, rfl, _⟩ := h; rfl
  · obtain ⟨a, ns, k, rfl, hS, hk, hk2, q⟩ := h
    refine ⟨_, (pss_cons (ps_if (pt_cmpR op_lt (pv 1) (pe_callB call_len_seq (by rfl) T.len boot_len (pa_cons (pv 0) pa_nil)) (nomark _)) (pss_one (ps_ret (pe_ix ix_list (pv 0) (pv 1) (fun _ _ => rfl)))) pss_nil)
      (pss_cons (ps_set (i := 2) sc_law_cell.nd rfl (Or.inl rfl) pe_int)
      (pss_cons (ps_for PassesOwn.never rfl (pi_list (pv 0)) (pg_name (i := 3) sc_law_cell.nd rfl (Or.inl rfl))
        (pss_one (ps_set (i := 2) sc_law_cell.nd rfl (Or.inl rfl) (pe_op op_mod (pe_callTy call_int1 (by rfl) T.int_ (by decide +kernel) (pa_cons (pe_op op_add (pe_op op_mul (pv 2) pe_int) (pe_op op_mod (pe_callTy call_int1 (by rfl) T.int_ (by decide +kernel) (pa_cons (pv 3) pa_nil)) pe_int)) pa_nil)) pe_int))))
      (pss_one (ps_ret (pe_op op_mod (pe_callTy call_int1 (by rfl) T.int_ (by decide +kernel) (pa_cons (pe_op op_mul (pe_op op_mul (pe_op op_add (pv 2) pe_int) (pe_op op_add (pv 1) pe_int)) pe_int) pa_nil)) pe_int)))))), ?_⟩
    refine q_when (et_test (ev_op (ev_var rfl) (ev_len (ev_var rfl) hS) rv_I0)) (fun hb H1 e1 => ?_) (fun hb H1 e1 => ?_)
    · have hlt : k < (ns.length : Int) := by
        have := of_decide_eq_true hb
        rw [List.length_map] at this
        exact this
      have hv : cellF ns k = ns.getD k.toNat 0 := if_pos hlt
      rw [hv] at q
      have hg : ns[k.toNat]? = some (ns.getD k.toNat 0) := by
        rw [List.getD_eq_getElem?_getD, List.getElem?_eq_getElem (by omega)]; rfl
      exact s_ret (ev_op (ev_var rfl) (ev_var rfl) (rv_ixL (ex_l e1 hS) (at_map hk hg))) fun H2 e2 => q H2 (e1.trans e2)
    · have hge : ¬ k < (ns.length : Int) := by
        have := of_decide_eq_false hb
        rw [List.length_map] at this
        exact this
      have hv : cellF ns k = ((seedF ns + 7) * (k + 3) * 69621) % 2147483647 := if_neg hge
      rw [hv] at q
      refine q_asg ev_c fun H2 e2 => ?_
      refine q_forLn (ev_var rfl) (ex_l (e1.trans e2) hS) (fun i σ' H' => ∃ (sd : Int) (v : Option V), σ' = [some (.ref a), some (.int k), some (.int sd), v] ∧ Ex H H' ∧ 0 ≤ sd ∧ sd < 1000003 ∧ (ns.drop i).foldl (fun s c => (s * 31 + c % 1000003) % 1000003) sd = seedF ns)
        (fun H3 e3 => ⟨17, none, rfl, (e1.trans e2).trans e3, by decide, by decide, rfl⟩) (fun i σ' H' _ ⟨_, _, _, e, _⟩ => ex_l e hS) ?_ ?_
      · rintro i x σ' H' hx ⟨sd, v, rfl, e, h0, h1, hf⟩
        obtain ⟨z, hz, rfl⟩ := get_map hx
        rw [drop_get hz, List.foldl_cons] at hf
        refine s_asg (ev_op (ev_int (ev_op (ev_op (ev_var rfl) ev_c (rv_I (by unfold CMul; omega))) (ev_op (ev_int (ev_var rfl)) ev_c (rv_I (by decide))) rv_I0)) ev_c (rv_I (by decide))) fun H4 e4 => ?_
        exact ⟨_, _, rfl, e.trans e4, Int.emod_nonneg _ (by decide), Int.emod_lt_of_pos _ (by decide), hf⟩
      · rintro σ' H' ⟨sd, v, rfl, e, h0, h1, hf⟩
        rw [List.length_map, List.drop_length] at hf
        have hsd : sd = seedF ns := hf
        subst hsd
        exact s_ret (ev_op (ev_int (ev_op (ev_op (ev_op (ev_var rfl) ev_c rv_I0) (ev_op (ev_var rfl) ev_c rv_I0) (rv_I (by unfold CMul; omega))) ev_c (rv_I (by unfold CMul; omega)))) ev_c (rv_I (by decide))) fun H4 e4 => q H4 (e.trans e4)
/-! ### _law_digits -/
abbrev s_law_digits : Stmt := top 24
abbrev N_law_digits : List Str := ["cell", "sizes", "row", "rest", "seed", "k", "size", "twice"]
theorem sc_law_digits : FnScope N_law_digits ["cell", "sizes"] (defScope s_law_digits) := ⟨rfl, rfl, rfl, by decide +kernel, rfl, by decide +kernel, by decide +kernel⟩
theorem ok_law_digits (T : TT mg) (F : At K mg "_law_digits" s_law_digits) : Dn P w K mg base 1 "_law_digits" s_law_digits ["cell", "sizes"] (spDigits K) := by
  refine dn_ok F sc_law_digits (fun _ _ _ _ _ _ us hl => match us, hl with | [_, _], _ => rfl) (fun vs H Q E h => ?_) (fun f cdv A outer s H vs Q E hr h => ?_)
  · obtain ⟨c, b, ss, rfl, _⟩ := h; rfl
  · obtain ⟨c, b, ss, rfl, hS, ⟨hlen, hss⟩, q⟩ := h
    refine ⟨_, (pss_cons (ps_set (i := 2) sc_law_digits.nd rfl (Or.inl rfl) (pe_lst pa_nil))
      (pss_cons (ps_set (i := 3) sc_law_digits.nd rfl (Or.inl rfl) (pe_callTy call_int1 (by rfl) T.int_ (by decide +kernel) (pa_cons (pv 0) pa_nil)))
      (pss_cons (ps_if (pt_cmpR op_ge (pv 3) (pe_op op_pow pe_int pe_int) (nomark _)) (pss_cons (ps_set (i := 3) sc_law_digits.nd rfl (Or.inl rfl) (pe_op op_sub (pv 3) (pe_op op_pow pe_int pe_int)))
        (pss_cons (ps_for PassesOwn.never rfl (pi_list (pv 1)) (pg_name (i := 6) sc_law_digits.nd rfl (Or.inl rfl))
          (pss_cons (ps_expr (pe_bm PySem.F.plainAttrs_list PySem.F.slot_list_append PySem.F.type_list_append mt_append (pv 2) (pa_cons (pe_op op_mod (pe_callTy call_int1 (by rfl) T.int_ (by decide +kernel) (pa_cons (pv 3) pa_nil)) (pv 6)) pa_nil)))
            (pss_one (ps_set (i := 3) sc_law_digits.nd rfl (Or.inl rfl) (pe_op op_fdivW (pe_callTy call_int1 (by rfl) T.int_ (by decide +kernel) (pa_cons (pv 3) pa_nil)) (pv 6))))))
        (pss_one (ps_ret (pv 2))))) pss_nil)
      (pss_cons (ps_set (i := 4) sc_law_digits.nd rfl (Or.inl rfl) (pe_op op_mod (pe_callTy call_int1 (by rfl) T.int_ (by decide +kernel) (pa_cons (pv 3) pa_nil)) pe_int))
      (pss_cons (ps_for PassesOwn.never rfl (pi_range1 (by rfl) T.range (pa_cons (pe_callB call_len_seq (by rfl) T.len boot_len (pa_cons (pv 1) pa_nil)) pa_nil)) (pg_name (i := 5) sc_law_digits.nd rfl (Or.inl rfl))
        (pss_cons (ps_set (i := 4) sc_law_digits.nd rfl (Or.inl rfl) (pe_op op_mod (pe_callTy call_int1 (by rfl) T.int_ (by decide +kernel) (pa_cons (pe_op op_add (pe_op op_add (pe_op op_mul (pv 4) pe_int) (pe_op op_mul pe_int (pv 5))) pe_int) pa_nil)) pe_int))
          (pss_cons (ps_set (i := 7) sc_law_digits.nd rfl (Or.inl rfl) (pe_op op_mod (pe_callTy call_int1 (by rfl) T.int_ (by decide +kernel) (pa_cons (pe_op op_mul (pv 4) (pe_op op_add (pe_op op_fdiv (pv 4) pe_int) pe_int)) pa_nil)) pe_int))
          (pss_one (ps_expr (pe_bm PySem.F.plainAttrs_list PySem.F.slot_list_append PySem.F.type_list_append mt_append (pv 2) (pa_cons (pe_op op_mod (pe_op op_fdiv (pv 7) pe_int) (pe_ix ix_list (pv 1) (pv 5) (fun _ _ => rfl))) pa_nil)))))))
      (pss_one (ps_ret (pv 2)))))))), ?_⟩
    have e18 : (10 : Int) ^ (Int.toNat 18) = 1000000000000000000 := by decide
    have c18 : CPow 10 18 := by unfold CPow; decide
    refine q_asgL (el_lst ea_nil (by decide)) fun l H1 nl e1 h1 => ?_
    refine q_asg (ev_int (ev_var rfl)) fun H2 e2 => ?_
    refine q_when (et_test (ev_op (ev_var rfl) (ev_op ev_c ev_c (rv_I c18)) rv_I0)) (fun hb H3 e3 => ?_) (fun hb H3 e3 => ?_)
    · have hge : 1000000000000000000 ≤ c := by
        have := of_decide_eq_true hb
        rw [e18] at this
        exact this
      have hv : digitsF c ss = digA (c - 1000000000000000000) ss := if_pos hge
      rw [hv] at q
      refine q_asg (ev_op (ev_var rfl) (ev_op ev_c ev_c (rv_I c18)) rv_I0) fun H4 e4 => ?_
      have e14 : Ex H H4 := ((e1.trans e2).trans e3).trans e4
      refine q_forLn (ev_var rfl) (ex_l e14 hS) (fun i σ' H' => ∃ (r : Int) (done : List Int) (v : Option V), σ' = [some (.int c), some (.ref b), some (.ref l), some (.int r), none, none, v, none] ∧ Ex H H' ∧ H' l = some (.lst (done.map V.int)) ∧ done.length = i ∧ done ++ digA r (ss.drop i) = digA (c - 1000000000000000000) ss)
        (fun H5 e5 => ⟨_, [], none, rfl, e14.trans e5, e5 l _ (e4 l _ (e3 l _ (e2 l _ h1))), rfl, by rw [e18]; rfl⟩) (fun i σ' H' _ ⟨_, _, _, _, e, _⟩ => ex_l e hS) ?_ ?_
      · rintro i x σ' H' hx ⟨r, done, v, rfl, e, hl, hd, hf⟩
        obtain ⟨z, hz, rfl⟩ := get_map hx
        have hi := (List.getElem?_eq_some_iff.mp hz).1
        obtain ⟨z0, z1⟩ := hss z (List.mem_of_getElem? hz)
        rw [drop_get hz] at hf
        refine q_app hl (ev_var rfl) (ev_op (ev_int (ev_var rfl)) (ev_var rfl) (rv_I z0)) (by rw [List.length_map]; omega) fun H5 e5 => ?_
        refine s_asg (ev_op (ev_int (ev_var rfl)) (ev_var rfl) (rv_I (divw z0 z1))) fun H6 e6 => ?_
        refine ⟨r / z, done ++ [r % z], _, rfl, (Ex.mut (e.trans e5) nl).trans e6, ?_, by rw [List.length_append]; simp [hd], ?_⟩
        · rw [List.map_append]
          exact e6 l _ upd_same
        · rw [List.append_assoc]
          exact hf
      · rintro σ' H' ⟨r, done, v, rfl, e, hl, hd, hf⟩
        rw [List.length_map, List.drop_length] at hf
        have hf2 : done = digA (c - 1000000000000000000) ss := by rw [← hf]; simp [digA]
        subst hf2
        exact s_ret (ev_var rfl) fun H5 e5 => q l H5 nl (e.trans e5) (e5 l _ hl)
    · have hlt : ¬ 1000000000000000000 ≤ c := by
        have := of_decide_eq_false hb
        rw [e18] at this
        exact this
      have hv : digitsF c ss = digB (c % 2147483629) 0 ss := if_neg hlt
      rw [hv] at q
      refine q_asg (ev_op (ev_int (ev_var rfl)) ev_c (rv_I (by decide))) fun H4 e4 => ?_
      have e14 : Ex H H4 := ((e1.trans e2).trans e3).trans e4
      refine q_forR1 (ea_cons (ev_len (ev_var rfl) (ex_l e14 hS)) ea_nil) ⟨by omega, by rw [List.length_map]; omega⟩ (fun i σ' H' => ∃ (sd : Int) (done : List Int) (v u : Option V), σ' = [some (.int c), some (.ref b), some (.ref l), some (.int c), some (.int sd), v, none, u] ∧ Ex H H' ∧ H' l = some (.lst (done.map V.int)) ∧ done.length = i ∧ 0 ≤ sd ∧ sd < 2147483647 ∧ done ++ digB sd i (ss.drop i) = digB (c % 2147483629) 0 ss)
        (fun H5 e5 => ⟨_, [], none, none, rfl, e14.trans e5, e5 l _ (e4 l _ (e3 l _ (e2 l _ h1))), rfl, Int.emod_nonneg _ (by decide), Int.lt_trans (Int.emod_lt_of_pos _ (by decide)) (by decide), rfl⟩) ?_ ?_
      · rintro i σ' H' hi ⟨sd, done, v, u, rfl, e, hl, hd, h0, h1', hf⟩
        rw [List.length_map] at hi
        obtain ⟨z, hz⟩ : ∃ z, ss[i]? = some z := ⟨_, List.getElem?_eq_getElem (by omega)⟩
        obtain ⟨z0, z1⟩ := hss z (List.mem_of_getElem? hz)
        rw [drop_get hz] at hf
        have hm : 0 ≤ (sd * 48271 + 974711 * (i : Int) + 12345) % 2147483647 := Int.emod_nonneg _ (by decide)
        have hm2 : (sd * 48271 + 974711 * (i : Int) + 12345) % 2147483647 < 2147483647 := Int.emod_lt_of_pos _ (by decide)
        refine q_asg (ev_op (ev_int (ev_op (ev_op (ev_op (ev_var rfl) ev_c (rv_I (by unfold CMul; omega))) (ev_op ev_c (ev_var rfl) (rv_I (by unfold CMul; omega))) rv_I0) ev_c rv_I0)) ev_c (rv_I (by decide))) fun H5 e5 => ?_
        refine q_asg (ev_op (ev_int (ev_op (ev_var rfl) (ev_op (ev_op (ev_var rfl) ev_c (rv_I (by unfold CDiv; decide))) ev_c rv_I0) (rv_I (by unfold CMul; omega)))) ev_c (rv_I (by decide))) fun H6 e6 => ?_
        have e16 : Ex H H6 := (e.trans e5).trans e6
        refine s_app (e6 l _ (e5 l _ hl)) (ev_var rfl) (ev_op (ev_op (ev_var rfl) ev_c (rv_I (by unfold CDiv; decide))) (ev_op (ev_var rfl) (ev_var rfl) (rv_ixL (ex_l e16 hS) (at_map (by omega) (by simpa using hz)))) (rv_I z0)) (by rw [List.length_map]; omega) fun H7 e7 => ?_
        refine ⟨_, done ++ [(sd * 48271 + 974711 * (i : Int) + 12345) % 2147483647 * ((sd * 48271 + 974711 * (i : Int) + 12345) % 2147483647 / 65537 + 3) % 2147483629 / 19 % z], _, _, rfl, Ex.mut (e16.trans e7) nl, ?_, by rw [List.length_append]; simp [hd], hm, hm2, ?_⟩
        · rw [List.map_append]
          exact upd_same
        · rw [List.append_assoc]
          exact hf
      · rintro σ' H' ⟨sd, done, v, u, rfl, e, hl, hd, h0, h1', hf⟩
        have en : ((ss.map V.int).length : Int).toNat = ss.length := by simp
        rw [en, List.drop_length] at hf
        have hf2 : done = digB (c % 2147483629) 0 ss := by rw [← hf]; simp [digB]
        subst hf2
        exact s_ret (ev_var rfl) fun H5 e5 => q l H5 nl (e.trans e5) (e5 l _ hl)
abbrev s_law_alphabet : Stmt := top 25
abbrev N_law_alphabet : List Str := ["row", "upto", "many", "letters", "taken", "k", "at", "turn"]
theorem sc_law_alphabet : FnScope N_law_alphabet ["row", "upto"] (defScope s_law_alphabet) := ⟨rfl, rfl, rfl, by decide +kernel, rfl, by decide +kernel, by decide +kernel⟩
def spAlp (K : PySem.W.Frag) : Sp := fun vs H Q _ => ∃ (p : Addr) (rs : List Int), vs = [.ref p, .int 6] ∧ SqL K H p (rs.map V.int) ∧ 7 ≤ rs.length ∧ 0 ≤ rs.getD 0 0 ∧ rs.getD 0 0 < 12 ∧ ∀ l : List Nat, AbcOk l → RetV (.str (S l)) H Q
theorem ok_law_alphabet (T : TT mg) (F : At K mg "_law_alphabet" s_law_alphabet) : Dn P w K mg base 1 "_law_alphabet" s_law_alphabet ["row", "upto"] (spAlp K) := by
  refine dn_ok F sc_law_alphabet (fun _ _ _ _ _ _ us hl => match us, hl with | [_, _], _ => rfl) (fun vs H Q E h => ?_) (fun f cdv A outer t H vs Q E hr h => ?_)
  · obtain ⟨p, rs, rfl, _⟩ := h; rfl
  · obtain ⟨p, rs, rfl, hS, h7, h0, h12, q⟩ := h
    refine ⟨_, (pss_cons (ps_set (i := 2) sc_law_alphabet.nd rfl (Or.inl rfl) (pe_callB (call_min2 rfl) (by rfl) T.min (by decide +kernel) (pa_cons (pv 1) (pa_cons (pe_ix ix_list (pe_lst (pa_cons pe_int (pa_cons pe_int (pa_cons pe_int (pa_cons pe_int (pa_cons pe_int (pa_cons pe_int (pa_cons pe_int (pa_cons pe_int (pa_cons pe_int (pa_cons pe_int (pa_cons pe_int (pa_cons pe_int pa_nil))))))))))))) (pe_ix ix_list (pv 0) pe_int (fun _ _ => rfl)) (fun _ _ => rfl)) pa_nil))))
      (pss_cons (ps_set (i := 3) sc_law_alphabet.nd rfl (Or.inl rfl) pe_str)
      (pss_cons (ps_set (i := 4) sc_law_alphabet.nd rfl (Or.inl rfl) (pe_lst pa_nil))
      (pss_cons (ps_for PassesOwn.never rfl (pi_range1 (by rfl) T.range (pa_cons (pv 2) pa_nil)) (pg_name (i := 5) sc_law_alphabet.nd rfl (Or.inl rfl))
        (pss_cons (ps_set (i := 6) sc_law_alphabet.nd rfl (Or.inl rfl) (pe_op op_mod (pe_callTy call_int1 (by rfl) T.int_ (by decide +kernel) (pa_cons (pe_ix ix_list (pv 0) (pe_op op_add pe_int (pv 5)) (fun _ _ => rfl)) pa_nil)) pe_int))
          (pss_cons (ps_for PassesOwn.never rfl (pi_range1 (by rfl) T.range (pa_cons pe_int pa_nil)) (pg_name (i := 7) sc_law_alphabet.nd rfl (Or.inl rfl))
            (pss_one (ps_if (pt_cmpR op_in_seq (pe_ix ix_str (pv 3) (pv 6) (fun _ _ => rfl)) (pv 4) (by rfl)) (pss_one (ps_set (i := 6) sc_law_alphabet.nd rfl (Or.inl rfl) (pe_op op_mod (pe_callTy call_int1 (by rfl) T.int_ (by decide +kernel) (pa_cons (pe_op op_add (pv 6) pe_int) pa_nil)) pe_int))) pss_nil)))
          (pss_one (ps_expr (pe_bm PySem.F.plainAttrs_list PySem.F.slot_list_append PySem.F.type_list_append mt_append (pv 4) (pa_cons (pe_ix ix_str (pv 3) (pv 6) (fun _ _ => rfl)) pa_nil)))))))
      (pss_one (ps_ret (pe_join pe_str (pe_callB cr_sortedS (by rfl) T.sorted (by decide +kernel) (pa_cons (pv 4) pa_nil))))))))), ?_⟩
    obtain ⟨m, hm, m1, m6⟩ := at_ints (ns := [2, 2, 2, 2, 3, 3, 3, 1, 4, 5, 6, 2]) (i := rs.getD 0 0) (fun z => 1 ≤ z ∧ z ≤ 6) (by decide) h0 (by show rs.getD 0 0 < 12; omega)
    refine q_asg (ev_min2 (ev_var rfl) (ev_ixNew (K := K) (el_lst (ea_cons ev_c (ea_cons ev_c (ea_cons ev_c (ea_cons ev_c (ea_cons ev_c (ea_cons ev_c (ea_cons ev_c (ea_cons ev_c (ea_cons ev_c (ea_cons ev_c (ea_cons ev_c (ea_cons ev_c ea_nil)))))))))))) (by show 12 ≤ 100000; decide)) (fun H1 e1 => ev_op (ev_var rfl) ev_c (rv_ixL (K := K) (ex_l e1 hS) (at_d (i := 0) (by omega)))) hm)) fun H1 e1 => ?_
    have hmm : (if m < (6 : Int) then m else 6) = m := by split <;> omega
    rw [hmm]
    refine q_asg ev_c fun H2 e2 => ?_
    refine q_asgL (el_lst ea_nil (by decide)) fun t H3 nt e3 ht => ?_
    have e12 := e1.trans e2
    refine q_forR1 (ea_cons (ev_var rfl) ea_nil) ⟨by omega, by omega⟩ (fun i σ' H' => ∃ (ls : List Nat) (x y z : Option V), σ' = [some (.ref p), some (.int 6), some (.int m), some (.str LETS), some (.ref t), x, y, z] ∧ Ex H2 H' ∧ H' t = some (.lst (sV (ls.map fun c => [c]))) ∧ ls.length = i ∧ ls.Nodup ∧ Sub ls L36c)
      (fun H4 e4 => ⟨[], none, none, none, rfl, e3.trans e4, e4 _ _ ht, rfl, List.nodup_nil, Sub.nil _⟩) ?_ ?_
    · rintro i σ' H' hi ⟨ls, x, y, z, rfl, e, hts, hln, hnd, hsub⟩
      refine q_asg (ev_op (ev_int (ev_op (ev_var rfl) (ev_op ev_c (ev_var rfl) rv_I0) (rv_ixL (K := K) (ex_l (e12.trans e) hS) (at_map (i := 1 + (i : Int)) (z := rs.getD (1 + i) 0) (by omega) (by
        have e1 : (1 + (i : Int)).toNat = 1 + i := by omega
        rw [e1, List.getD_eq_getElem?_getD, List.getElem?_eq_getElem (by omega)]
        rfl))))) ev_c (rv_I (by decide))) fun H4 e4 => ?_
      have hs0 := Int.emod_nonneg (rs.getD (1 + i) 0) (show (36 : Int) ≠ 0 by decide)
      have hs1 := Int.emod_lt_of_pos (rs.getD (1 + i) 0) (show (0 : Int) < 36 by decide)
      obtain ⟨a0, ha0, ha36⟩ : ∃ a0 : Nat, rs.getD (1 + i) 0 % 36 = (a0 : Int) ∧ a0 < 36 := ⟨(rs.getD (1 + i) 0 % 36).toNat, by omega, by omega⟩
      rw [ha0]
      refine q_forR1 (ea_cons ev_c ea_nil) ⟨by decide, by decide⟩ (fun j σ2 H5 => ∃ (at_ : Nat) (z : Option V), σ2 = [some (.ref p), some (.int 6), some (.int m), some (.str LETS), some (.ref t), some (.int (i : Int)), some (.int (at_ : Int)), z] ∧ Ex H4 H5 ∧ at_ < 36 ∧ (L36c.getD at_ 0 ∉ ls ∨ (at_ = (a0 + j) % 36 ∧ ∀ t, t < j → L36c.getD ((a0 + t) % 36) 0 ∈ ls)))
        (fun H5 e5 => ⟨a0, z, rfl, e5, ha36, Or.inr ⟨by omega, fun t ht => absurd ht (Nat.not_lt_zero t)⟩⟩) ?_ ?_
      · rintro j σ2 H5 hj ⟨at_, z, rfl, e5, a1, hor⟩
        have hc := at_L36 (H := H5) (i := (at_ : Int)) (by omega) (by omega)
        rw [Int.toNat_natCast] at hc
        refine s_when (b := decide (L36c.getD at_ 0 ∈ ls)) (et_test (ev_is (ev_op (ev_op (ev_var rfl) (ev_var rfl) hc) (ev_var rfl) (rv_isL (K := K) (sq_of (e5 _ _ (e4 _ _ hts))) rfl (flat_strs _))) (congrArg V.bl (in_sV _)))) (fun hb H6 e6 => ?_) (fun hb H6 e6 => ?_)
        · have hin := of_decide_eq_true hb
          have hor2 : at_ = (a0 + j) % 36 ∧ ∀ t, t < j → L36c.getD ((a0 + t) % 36) 0 ∈ ls := by
            rcases hor with z | z
            · exact absurd hin z
            · exact z
          have em : ((at_ : Int) + 1) % 36 = (((at_ + 1) % 36 : Nat) : Int) := by omega
          refine s_asg (ev_is (ev_op (ev_int (ev_op (ev_var rfl) ev_c rv_I0)) ev_c (rv_I (by decide))) (congrArg V.int em)) fun H7 e7 => ⟨_, _, rfl, (e5.trans e6).trans e7, Nat.mod_lt _ (by decide), Or.inr ⟨by have := hor2.1; omega, fun t ht => ?_⟩⟩
          by_cases hz : t < j
          · exact hor2.2 t hz
          · have : t = j := by omega
            subst this
            rw [← hor2.1]
            exact hin
        · have hin := of_decide_eq_false hb
          exact ⟨_, _, rfl, e5.trans e6, a1, Or.inl hin⟩
      · rintro σ2 H5 ⟨at_, z, rfl, e5, a1, hor⟩
        have hfree : L36c.getD at_ 0 ∉ ls := by
          rcases hor with z | ⟨_, z⟩
          · exact z
          · have e36 : ((36 : Int)).toNat = 36 := by decide
            rw [e36] at z
            exact (walk_free (by omega) fun t ht => z t (by omega)).elim
        have hc := at_L36 (H := H5) (i := (at_ : Int)) (by omega) (by omega)
        rw [Int.toNat_natCast] at hc
        refine s_app (e5 _ _ (e4 _ _ hts)) (ev_var rfl) (ev_op (ev_var rfl) (ev_var rfl) hc) (by rw [List.length_map, List.length_map]; omega) fun H6 e6 => ?_
        refine ⟨ls ++ [L36c.getD at_ 0], _, _, _, rfl, Ex.mut (((e.trans e4).trans e5).trans e6) nt, ?_, by rw [List.length_append, hln]; rfl, nodup_snoc hnd hfree, Sub.app hsub (Sub.one ?_)⟩
        · rw [upd_same]
          simp [sV]
        · have hl36 : at_ < L36c.length := by rw [L36c_len]; exact a1
          rw [List.getD_eq_getElem?_getD, List.getElem?_eq_getElem hl36]
          exact List.getElem_mem hl36
    rintro σ' H' ⟨ls, x, y, z, rfl, e, hts, hln, hnd, hsub⟩
    refine ev_joinLetters ev_c (ev_var rfl) (sq_of hts) (by omega) fun l H4 hp hpw e4 => q l ⟨?_, ?_, fun c hc => hsub c (hp.mem_iff.mp hc), ?_⟩ H4 ((e12.trans e).trans e4)
    · rw [hp.length_eq]; omega
    · rw [hp.length_eq]; omega
    · have hn2 := List.nodup_iff_pairwise_ne.mp (hp.nodup_iff.mpr hnd)
      exact (hpw.and hn2).imp fun h => by have h1 := h.1; have h2 := h.2; omega
end
end My

set_option Elab.async false
set_option linter.all false
set_option maxRecDepth 100000
set_option maxHeartbeats 4000000
namespace My
open PySem PySem.Spec PyProof.Rows L2 Evl
/-! ### the method wrapper of ValueError.__init__, called -/
theorem bexc_init {prog : Program} {w : World} {A : Around} {E : Value → Shared → Prop} {h : Heap} {g : Array GenState} {d : Drawn} {t : Nat} {os : OsState} {C e t0 : Addr} {rest : List Value} {P : PySem.Fin → Shared → Prop} (he : h.get? e = some (HandSPX.excO C t0)) (hl : rest.length ≤ sizeLine)
    (k : ∀ h' t1, (∀ b o, b ≠ e → h.get? b = some o → h'.get? b = some o) → h'.get? e = some (HandSPX.excO C t1) → P (.done (.ret .none)) ⟨h', g, d, t, os⟩) :
    wpAny (model prog w) A (Builtin.«BaseException.__init__» { pos := .ref e :: rest }) P E ⟨h, g, d, t, os⟩ := by
  unfold Builtin.«BaseException.__init__»
  wp_walk
  refine k _ h.objs.size (fun b o hb hg => ?_) ?_
  · rw [Heap.get?_update_ne _ _ _ _ hb]
    exact Heap.get?_push_of_some _ hg
  · exact Heap.get?_update_self _ (Heap.get?_push_of_some _ he) rfl
theorem mw_call {prog : Program} {w : World} {A : Around} {E : Value → Shared → Prop} {h : Heap} {g : Array GenState} {d : Drawn} {t : Nat} {os : OsState} {nm q : Str} {C N : Addr} {bs bm : List Value} {hdct : Bool} {sn : List Str} {sub : List Value} {ab : Bool} {col : Option Bool} {dd : Option Addr} {k0 k1 k2 k3 k5 : Option Value} {u e t0 : Addr} {rest : List Value} {Q : Value → Shared → Prop}
    (hC : h.get? C = some (excClassObj nm q C N bs bm hdct sn sub ab col dd k0 k1 k2 k3 k5 "ValueError.__new__")) (he : h.get? e = some (HandSPX.excO C t0)) (hu : h.get? u = some (W.kxs_mw "ValueError.__init__" e)) (hl : rest.length ≤ sizeLine)
    (k : ∀ h' t1, (∀ b o, b ≠ e → h.get? b = some o → h'.get? b = some o) → h'.get? e = some (HandSPX.excO C t1) → Q .none ⟨h', g, d, t, os⟩) : wpAny (model prog w) A (call (.ref u) rest) Q E ⟨h, g, d, t, os⟩ := by
  refine wpAny_call (codeAny_of_tree ?_)
  show wpAny _ _ (callAny (.ref u) ⟨rest, []⟩) _ _ _
  rw [callAny.eq_3]
  refine wpAny_bind (wpAny_load hu ?_)
  refine wpAny_bind (ESX.check_bound F.excBase_ValueError hC he rfl ?_)
  have hq : (Code.builtin "ValueError.__init__" ⟨.ref e :: rest, []⟩).quiet = true := by
    first
      | rfl
      | with_unfolding_all rfl
      | kernel_rfl
  refine wpAny_pure ⟨hq, codeAny_builtin F.excBase_ValueError.initEntry (bexc_init he hl fun h' t1 a b => ?_)⟩
  exact k h' t1 a b
theorem at_any {α : Type} {M : Model} {A : Around} {c : Code} {t : Sem α} {Q : α → Shared → Prop} {E : Value → Shared → Prop} {s : Shared} (h : wpAny M A t Q E s) : PySem.wpAt M A c t Q E s := fun Γ p _ hin => h Γ p hin
/-! ### super().__init__(e) in the __init__ of an own error class -/
structure SupC (prog : Program) (K : PySem.W.Frag) (mg : Str → Option Value) (C f c cc : Addr) : Prop where
  oex : OexC K C
  mS : mg "super" = none
  ms : (prog.main.scope.names.lookup ("super" : Str)).isSome = false
  cell : ∃ o, K.lookup cc = some o ∧ o.data = .cell (some (.ref C))
  code : ∃ o vs file tf, K.lookup c = some o ∧ o.data = .fields vs ∧ vs[2]? = some (.str file tf) ∧ (prog.main.file == file) = true
  along : ∃ cd, PySem.W.clsIn K C = some cd ∧ PySem.W.alongIn K "__init__" ((cd.mro.dropWhile (· != .ref C)).drop 1) = some (some (.builtin "ValueError.__init__"))
  stat : PySem.W.nsIn K cStatics (Str.ofString "thirdparty.any") = some none
  subVE : PySem.W.subIn K (.ref C) (.type "ValueError") = some true
  subC : PySem.W.subIn K (.ref C) (.ref C) = some true
theorem upd_idem {H : Hp} {a : Addr} {o : HO} (h : H a = some o) : upd H a o = H := by
  funext b
  by_cases e : b = a
  · subst e; rw [upd_same, h]
  · rw [upd_ne e]
theorem at_super {X : Cx} {C f c cc a : Addr} {of : Obj} {fd : FuncData} {ar : Arg} {e : Expr} {te : TE} {body : List Stmt} {p0 p1 p2 p3 p4 : Pos} {pl : Sem Bool} (S : SupC X.prog X.K X.mg C f c cc) (gS : Gl X "super") (kc : X.env.kindOf "__class__" = some .free) (lc : X.env.cells.lookup ("__class__" : Str) = some cc)
    (fe : X.env.func = some f) (fo : X.K.lookup f = some of) (fod : of.data = .func fd) (hh : (fd.params.posonlyargs ++ fd.params.args).head? = some ar) (ce : X.env.code = .ref c) (kself : X.env.kindOf ar.arg = some .local) (vself : Vis X.env.scope ar.arg) (nself : X.N[0]? = some ar.arg) (he : PE X e te)
    {pins : List (Addr × Obj)} {s : Shared} {σ : L2.St} {H : Hp} {D : Ends} (I : Inv X pins σ H s) (h0 : σ[0]? = some (some (.ref a))) (hH : H a = some (exo a C none)) (h : te σ H fun v H1 => H1 a = some (exo a C none) ∧ D.nx σ H1)
    (hint : interactive X.env = false) (hsw : swapsWith (.Call (.Attribute (.Call (.Name "super" p0) [] [] p1) "__init__" p2) [e] [] p3) none p4.line X.env = pure false)
    (hev : eval (.Call (.Attribute (.Call (.Name "super" p0) [] [] p1) "__init__" p2) [e] [] p3) X.env = (do
          let ov ← attributeBase (.Call (.Name "super" p0) [] [] p1) "__init__" X.env (eval (.Call (.Name "super" p0) [] [] p1) X.env)
          standAt p2.atName
          let __x ← holding [ov] (getMethod ov "__init__" pl)
          match __x with
            | (f, first) => callWith p3 f first (backTo p3 (starEach [e] X.env)) []))
    (hst : starEach [e] X.env = (false, eval e X.env) :: starEach [] X.env) (hpl : ((backTo p3 (starEach [] X.env)).any fun x => x.fst) = false) :
    PySem.wpAt (model X.prog X.w) X.A (Code.func body X.env) (exec (.Expr (.Call (.Attribute (.Call (.Name "super" p0) [] [] p1) "__init__" p2) [e] [] p3) p4) X.env) (SP X pins D) X.xe s := by
  obtain ⟨hp, g, d, t, os⟩ := s
  have KI : X.K.In hp := I.kIn
  obtain ⟨co, hco, hcd⟩ := S.cell
  obtain ⟨o2, vs2, file, tf, hc2, hd2, hv2, hf2⟩ := S.code
  obtain ⟨nm, q, N, bs, bm, sn, sub, ab, col, dd, k0, k1, k2, k3, k5, hC, hbm⟩ := S.oex.cls
  obtain ⟨mb, hmb, hmb2⟩ := I.mod.blt
  obtain ⟨m, hns, hloc⟩ := I.loc
  have hself : m ar.arg = some (.ref a) := by
    obtain ⟨u, ru, lk⟩ := hloc 0 ar.arg (.ref a) nself h0 vself
    cases ru
    rcases lk with ⟨_, z⟩ | ⟨z, _⟩
    · exact z
    · rw [kself] at z
      rcases z with z | z <;> cases z
  refine ks_wpAt_Expr_any (ks_wpAt_MethodCall (pl := pl) (ks_wpAt_super_base gS kc (by decide +kernel) fe (KI _ _ fo) fod hh ce (KI _ _ hc2) hd2 hv2 hf2 S.ms ?_) hev) hint hsw
  have hnk : ∀ {L : Addr} {mm : Str → Option Value}, X.base.Ns L mm → hp.Ns L mm := fun h => h.keeps I.bk
  refine PySem.W.ks_loadName_global I.ok.kind gS (Calls.loadGlobal_builtin (mg := X.mg) (mb := mb) (by rw [I.ok.glob]; exact hnk I.mod.glob) S.mS (by rw [I.ok.blt]; exact hnk hmb) ((hmb2 _ (by decide +kernel)).trans (by rfl : bootBuiltins ("super" : Str) = some (.type "super"))) ?_)
  refine ⟨rfl, wpAny_loadName_free I.ok.kind kc lc ⟨_, KI _ _ hco, hcd⟩ (wpAny_loadName_local I.ok.kind kself hns hself ?_) (by decide +kernel)⟩
  obtain ⟨t0, hx⟩ := exo_at I.hok hH
  refine ks_wpAny_isType_cls (KI _ _ hC) rfl ⟨rfl, ks_wpAny_call_super (KI _ _ hC) rfl hx rfl (fun _ z => by cases z) (PySem.W.looks_subIn KI S.subC) fun h' hso keep => ?_⟩
  have KI2 : X.K.In h' := fun b o z => keep b o (KI b o z)
  obtain ⟨cd, hcd1, hal⟩ := S.along
  have hxC : a ≠ C := fun z => by
    have h1 := KI _ _ hC
    rw [← z, hx] at h1
    cases Option.some.inj h1
  have hiv : PySem.W.Looks (model X.prog X.w) h' (isInstance (.ref a) (.type "ValueError")) true := by
    intro A Q E s hk q
    show wpAny _ _ (typeOf (.ref a) >>= fun t => isSubtype t (.type "ValueError")) _ _ _
    refine wpAny_bind (wpAny_typeOf_ref (hk _ _ (keep _ _ hx)) ?_)
    exact PySem.W.looks_subIn KI2 S.subVE _ _ _ _ hk q
  have hmro : PySem.W.Looks (model X.prog X.w) h' (mroOf (.ref C)) cd.mro := PySem.W.Looks.andThen (PySem.W.looks_clsIn KI2 hcd1) PySem.W.Looks.now
  refine PySem.W.kxs_getMethod PySem.W.kxs_ValueError hso (PySem.W.looks_opaque KI2 S.stat) hmro rfl KI2 hal hiv hxC (by decide +kernel) ?_
  have hkeep2 : ∀ b o, hp.get? b = some o → (h'.push (PySem.W.kxs_mw "ValueError.__init__" a)).get? b = some o := fun b o z => Heap.get?_push_of_some _ (keep b o z)
  have I2 : Inv X pins σ H ⟨h'.push (PySem.W.kxs_mw "ValueError.__init__" a), g, d, t + 1, os⟩ := I.kept (t' := t + 1) hkeep2
  have hu : (h'.push (PySem.W.kxs_mw "ValueError.__init__" a)).get? h'.objs.size = some (PySem.W.kxs_mw "ValueError.__init__" a) := Heap.get?_push_size _ rfl
  have hsz : hp.objs.size < h'.objs.size := Heap.lt_size hso
  have hnone : ∀ b o, hp.get? b = some o → h'.objs.size ≠ b := fun b o hb z => by
    subst z
    exact Nat.lt_irrefl _ (Nat.lt_trans (Heap.lt_size hb) hsz)
  have hlt := I.lt
  have hpin : Inv X (pins ++ pinsAt [h'.objs.size] (h'.push (PySem.W.kxs_mw "ValueError.__init__" a))) σ H ⟨h'.push (PySem.W.kxs_mw "ValueError.__init__" a), g, d, t + 1, os⟩ := by
    refine I2.pinned (fp := [h'.objs.size]) (fun b hb => ?_) (fun b hb => ?_)
    · rw [List.mem_singleton.mp hb]
      exact I.fpOk (Nat.le_of_lt hsz) (I.hok.fresh (Nat.le_of_lt hsz))
    · rw [List.mem_singleton.mp hb]
      exact ⟨_, hu, fun v z => by cases z⟩
  have hpa : pinsAt [h'.objs.size] (h'.push (PySem.W.kxs_mw "ValueError.__init__" a)) = [(h'.objs.size, PySem.W.kxs_mw "ValueError.__init__" a)] := by
    unfold pinsAt
    rw [List.filterMap_cons, hu]
    rfl
  rw [hpa] at hpin
  refine PySem.W.kxs_callWith1 (h₀ := X.base) (L := X.env.locals) (news := [(h'.objs.size, PySem.W.kxs_mw "ValueError.__init__" a)]) (fun p hp2 => ?_) (List.mem_singleton.mpr rfl) ?_ hst hpl
  · rw [List.mem_singleton.mp hp2]
    refine ⟨hu, fun z => ?_, ?_⟩
    · have z2 : h'.objs.size = X.env.locals := z
      have h1 : X.env.locals < hp.objs.size := hlt
      rw [← z2] at h1
      exact Nat.lt_irrefl _ (Nat.lt_trans h1 hsz)
    · show X.base.get? h'.objs.size = none
      cases z : X.base.get? h'.objs.size with
      | none => rfl
      | some o => exact absurd rfl (hnone _ o (I.bk _ _ z))
  refine thn ((pa_cons he pa_nil hst).run p3 _ _ σ H (fun vs H1 => match vs with | [_] => H1 a = some (exo a C none) ∧ D.nx σ H1 | _ => False) hpin h) fun vs s1 ⟨zs, H1, I1, r1, hz⟩ => ?_
  obtain ⟨v, rfl⟩ : ∃ v, zs = [v] := by
    match zs, hz with
    | [v], _ => exact ⟨v, rfl⟩
    | [], z => exact z.elim
    | _ :: _ :: _, z => exact z.elim
  obtain ⟨hH1, dn⟩ := hz
  obtain ⟨hp1, g1, d1, t1, os1⟩ := s1
  obtain ⟨u1, rfl, ru1⟩ := vals1 r1
  have hp1u : hp1.get? h'.objs.size = some (PySem.W.kxs_mw "ValueError.__init__" a) := (I1.pin (h'.objs.size, _) (by simp)).1
  obtain ⟨t2, hx1⟩ := exo_at I1.hok hH1
  refine ⟨hp1u, mw_call (I1.kIn _ _ hC) hx1 hp1u (by show 1 ≤ 16777216; decide) fun h3 t3 keep3 hx3 => ?_⟩
  have I4 := (I1.unpinned).write (x := a) (e := a) (o := exo a C none) (h' := h3) (t' := t1) (by rw [hH1]; trivial) (Or.inl rfl) keep3 ⟨_, hx3⟩ (exo_ok hx3)
  rw [upd_idem hH1] at I4
  exact ⟨σ, H1, I4, dn⟩
end My

set_option Elab.async false
set_option linter.all false
set_option maxRecDepth 100000
set_option maxHeartbeats 4000000
namespace My
open PySem PySem.Spec PyProof.Rows L2 Evl
/-- what the __init__ of an own error with one field leaves -/
def spInit (C : Addr) (fld : Str) (Good : V → Prop) : Sp := fun vs H Q _ => ∃ (a : Addr) (z : V), vs = [.ref a, z] ∧ H a = some (exo a C none) ∧ Good z ∧ ∀ (H1 : Hp) (dx : Addr), Ex H H1 → H1 dx = none → dx ≠ a → Q .non (upd (upd H1 dx (exd dx [(fld, z)])) a (exo a C (some dx)))
abbrev nfOf (qual : Str) (st : Stmt) (cc c : Addr) : NdefX.NF := ⟨"__init__", qual, defArgs st, defBody st, defScope st, [("__class__", cc)], c⟩
theorem excinit_ok {P : Program} {w : World} {K : PySem.W.Frag} {mg : Str → Option Value} {base : Heap} {C f c cc : Addr} {qual p fld : Str} {st st1 st2 : Stmt} {N : List Str} {k : Nat} {Good : V → Prop}
    {oc kV doc pm ct : Value} {od an : Option Addr} {osl : Array (Option Value)} (S : SupC P K mg C f c cc)
    (lk : K.lookup f = some ⟨oc, od, .func (PySem.W.fnX "__init__" qual (defArgs st) (defBody st) (defScope st) [("__class__", cc)] .none kV doc pm an (.ref c) ct), osl⟩)
    (hcr : ∃ o vs t, K.lookup c = some o ∧ o.data = .fields vs ∧ vs[1]? = some (.str qual t)) (NS : NdefX.NScope N ["self", p] ["__class__"] (defScope st)) (hN : N.length = 3) (hbody : defBody st = [st1, st2])
    (nof : PySem.W.findIn K (.ref C) fld = some none)
    (h1 : ∀ (A : Around) (outer : List Env) (s : Shared) (H : Hp) (E : XK), Room k (A.deeper (NdefX.envF (nfOf qual st cc c) f s.heap.objs.size)) → ∀ (s1 : Shared) (σ : L2.St) (H1 : Hp) (D : Ends) (a : Addr) (z : V), Inv (NdefX.ncx CX0 P w K mg base N (nfOf qual st cc c) f A outer s H E) [] σ H1 s1 → σ = [some (.ref a), some z, some (.ref C)] → H1 a = some (exo a C none) → Good z → (∀ H2, Ex H1 H2 → D.nx σ H2) →
      PySem.wpAt (model P w) (NdefX.ncx CX0 P w K mg base N (nfOf qual st cc c) f A outer s H E).A (Code.func (defBody st) (NdefX.ncx CX0 P w K mg base N (nfOf qual st cc c) f A outer s H E).env) (exec st1 (NdefX.ncx CX0 P w K mg base N (nfOf qual st cc c) f A outer s H E).env) (SP (NdefX.ncx CX0 P w K mg base N (nfOf qual st cc c) f A outer s H E) [] D) (NdefX.ncx CX0 P w K mg base N (nfOf qual st cc c) f A outer s H E).xe s1)
    (h2 : ∀ (A : Around) (outer : List Env) (s : Shared) (H : Hp) (E : XK), PSs (NdefX.ncx CX0 P w K mg base N (nfOf qual st cc c) f A outer s H E) [st2] (tOst K fld (tVar 0) (tVar 1))) :
    FnOk P w K mg base CX0 (k + 1) f (PySem.W.fnX "__init__" qual (defArgs st) (defBody st) (defScope st) [("__class__", cc)] .none kV doc pm an (.ref c) ct) ["self", p] (spInit C fld Good) := by
  refine ⟨fun vs H Q E h => by obtain ⟨a, z, rfl, _⟩ := h; rfl, fun A outer s H args us vs Q E hroom hE hb hv hs => ?_⟩
  obtain ⟨a, z, rfl, hH, hg, q⟩ := hs
  obtain ⟨o2, vs2, t2, hc2, hd2, hv2⟩ := hcr
  obtain ⟨co, hco, hcd⟩ := S.cell
  have KI : K.In s.heap := fun b o hb => (hE.bs b o (hE.mod.kin b o hb)).1
  have KH : ∀ b o, K.lookup b = some o → H b = none := fun b o hb => (hE.bs b o (hE.mod.kin b o hb)).2
  refine ks_codeAny_call_defAt (body := defBody st) (by have := hroom.dp; omega) (KI _ _ lk) rfl (hE.mod.nolimit.keeps fun b o hb => (hE.bs b o hb).1) ⟨c, o2, vs2, t2, rfl, KI _ _ hc2, hd2, hv2⟩ rfl hb (fun y hy => NS.nocell y hy) (fun y hy => NS.par _ (List.of_mem_zip hy).1) (fun h₀ hns keep => ?_) NS.co NS.gen NS.kind
  have hca : NdefX.CellsAt (nfOf qual st cc c).cl ["__class__"] [some (.ref C)] s.heap H := by
    refine ⟨rfl, fun y c' hc' => ?_, fun x y c' hx hy => ?_, fun i y hi => ?_⟩
    · have e : cc = c' := by
        have h9 : List.lookup y [(("__class__" : Str), cc)] = some c' := hc'
        rw [List.lookup_cons] at h9
        split at h9
        · exact Option.some.inj h9
        · cases h9
      subst e
      exact ⟨KH _ _ hco, _, _, KI _ _ hco, hcd⟩
    · have key : ∀ u, List.lookup u [(("__class__" : Str), cc)] = some c' → u = ("__class__" : Str) := fun u hu => by
        rw [List.lookup_cons] at hu
        split at hu
        · rename_i hq
          exact eq_of_beq hq
        · cases hu
      rw [key x hx, key y hy]
    · match i, hi with
      | 0, hi =>
        have ey : ("__class__" : Str) = y := Option.some.inj hi
        subst ey
        refine ⟨cc, by simp [nfOf, List.lookup_cons], fun v hv => ?_⟩
        have ev : V.ref C = v := Option.some.inj (Option.some.inj hv)
        subst ev
        exact ⟨.ref C, rfl, _, KI _ _ hco, hcd⟩
      | i + 1, hi => cases hi
  have I := NdefX.inv_startN (CX := CX0) (E := E) (f := f) (N := N) (F := nfOf qual st cc c) (tk := s.toks + (List.zip [("self" : Str), p] us).length) NS hroom.hd hE rfl hv hca hns keep
  have hσ : NdefX.startF N [.ref a, z] [some (.ref C)] = [some (.ref a), some z, some (.ref C)] := by
    unfold NdefX.startF
    rw [hN]
    rfl
  rw [hσ] at I
  have hr2 : Room k (A.deeper (NdefX.envF (nfOf qual st cc c) f s.heap.objs.size)) := hroom.deeper _
  have g1 := h1 A outer s H E hr2 _ _ H { nx := fun σ' H' => σ' = [some (.ref a), some z, some (.ref C)] ∧ Ex H H', rt := fun _ _ => False } a z I rfl hH hg (fun H2 e2 => ⟨rfl, e2⟩)
  show PySem.wpAt (model P w) (NdefX.ncx CX0 P w K mg base N (nfOf qual st cc c) f A outer s H E).A (Code.func (defBody st) (NdefX.ncx CX0 P w K mg base N (nfOf qual st cc c) f A outer s H E).env) (execs (defBody st) (NdefX.ncx CX0 P w K mg base N (nfOf qual st cc c) f A outer s H E).env) _ _ _
  have hex : execs (defBody st) = execs [st1, st2] := by rw [hbody]
  rw [hex]
  refine ks_wpAt_execs_cons (ks_wpAt_mono g1 (fun fl s' hs => ?_) (fun e s' he => he))
  cases fl with
  | next =>
    obtain ⟨σ', H', I', rfl, e'⟩ := hs
    refine at_any (thn ((h2 A outer s H E).run [] s' _ H' { nx := fun _ H3 => Q .non H3, rt := fun _ _ => False } I' ?_) fun fl2 s2 hs2 => ?_)
    · exact ⟨z, rfl, .ref a, rfl, a, C, rfl, S.oex, nof, Or.inl ⟨e' _ _ hH, fun dx hdx hne => q H' dx e' hdx hne⟩⟩
    · cases fl2 with
      | next =>
        obtain ⟨σ3, H3, I3, q3⟩ := hs2
        exact ⟨.non, H3, I3.os, I3.bare, I3.base, I3.hok, rfl, q3⟩
      | brk => obtain ⟨_, _, _, z⟩ := hs2; exact z.elim
      | cont => obtain ⟨_, _, _, z⟩ := hs2; exact z.elim
      | ret u => obtain ⟨_, _, _, _, _, z⟩ := hs2; exact z.elim
  | brk => obtain ⟨_, _, _, z⟩ := hs; exact z.elim
  | cont => obtain ⟨_, _, _, z⟩ := hs; exact z.elim
  | ret u => obtain ⟨_, _, _, _, _, z⟩ := hs; exact z.elim
end My

set_option Elab.async false
set_option linter.all false
set_option maxRecDepth 100000
set_option maxHeartbeats 4000000
namespace My
open PySem PySem.Spec PyProof.Rows L2 Evl
/-! ### isinstance of a caught own error that has fields -/
theorem inst_of {X : Cx} {a D dd : Addr} {oe : Obj} {cls : Value} {d : Option Addr} {pn pins : List (Addr × Obj)} {σ : L2.St} {H : Hp} {s : Shared} {fs : List (Str × V)} (hz : Zc cls d oe) (hf : ∃ vs, oe.data = .fields vs) (ec : cls = .ref D) (ed : d = some dd)
    (I : Inv (X.suite a ((a, oe) :: pn)) pins σ H s) (h : H dd = some (.xd fs)) : ∃ od, PySem.W.InstAt s.heap a oe D (some od) := by
  subst ec ed
  obtain ⟨ha, _⟩ := I.pin (a, oe) (List.mem_append_left _ List.mem_cons_self)
  obtain ⟨vs, hd⟩ := hf
  have hx : ObjOk X.prog X.w H s.heap dd (.xd fs) := I.hok dd _ h
  obtain ⟨mA, hns, hr⟩ := hx
  obtain ⟨od, ho, hl⟩ := lookIn_ns hns
  exact ⟨od, ha, hz.1, by unfold PySem.W.notCls; rw [hd] <;> rfl, by rw [hz.2]; exact ho⟩
theorem kit_own {K : PySem.W.Frag} {D x : Addr} {ox : Obj} {od : Option Obj} (C : ExcC K D) : PySem.W.KitX K (.ref x) (.ref D) (fun h => PySem.W.InstAt h x ox D od) :=
  PySem.W.kitx_exc (by obtain ⟨cd, hc, _⟩ := PySem.W.any_some C.hd; rw [hc]; rfl) C.hg C.hk C.hs C.ha C.hn C.ht C.hm
/-- isinstance(e, c), e the error that the suite holds -/
def rIsX (K : PySem.W.Frag) (a : Addr) (cls : Value) (d : Option Addr) : List V → Hp → VK → Prop := fun xs H Q => ∃ (c : V) (cv : Value) (b : Bool) (D dd : Addr) (fs : List (Str × V)), xs = [.ref a, c] ∧ cls = .ref D ∧ ExcC K D ∧ d = some dd ∧ H dd = some (.xd fs) ∧ ClsV c cv ∧ PySem.W.kitOne K (.ref D) cv = some b ∧ Q (.bl b) H
theorem call_isX {X : Cx} {a : Addr} {oe : Obj} {cls : Value} {d : Option Addr} {pn : List (Addr × Obj)} (hz : Zc cls d oe) (hf : ∃ vs, oe.data = .fields vs) : CallR (X.suite a ((a, oe) :: pn)) (.builtin "isinstance") (rIsX X.K a cls d) := by
  intro pins s σ H xs us Q I r h
  obtain ⟨c, cv, b, D, dd, fs, rfl, ec, C, ed, hdd, hcv, e, q⟩ := h
  obtain ⟨u1, u2, rfl, r1, r2⟩ := vals2 r
  cases (show u1 = Value.ref a from r1)
  have e2 := hcv.eq r2
  subst e2
  obtain ⟨od, J⟩ := inst_of hz hf ec ed I hdd
  exact PySem.W.kia_one (kit_own C) I.kIn J e (fun z => nomatch z) fun tk => ⟨.bl b, H, I.tok tk, rfl, q⟩
def rIsXT (K : PySem.W.Frag) (a : Addr) (cls : Value) (d : Option Addr) : List V → Hp → VK → Prop := fun xs H Q => ∃ (tp : Addr) (cs : List V) (ws : List Value) (b : Bool) (D dd : Addr) (fs : List (Str × V)), xs = [.ref a, .ref tp] ∧ H tp = some (.tup cs) ∧ Paired ClsV cs ws ∧ cls = .ref D ∧ ExcC K D ∧ d = some dd ∧ H dd = some (.xd fs) ∧ PySem.W.kitAny K (.ref D) ws = some b ∧ Q (.bl b) H
theorem call_isXT {X : Cx} {a : Addr} {oe : Obj} {cls : Value} {d : Option Addr} {pn : List (Addr × Obj)} (hz : Zc cls d oe) (hf : ∃ vs, oe.data = .fields vs) : CallR (X.suite a ((a, oe) :: pn)) (.builtin "isinstance") (rIsXT X.K a cls d) := by
  intro pins s σ H xs us Q I r h
  obtain ⟨tp, cs, ws, b, D, dd, fs, rfl, hT, hcv, ec, C, ed, hdd, e, q⟩ := h
  obtain ⟨u1, u2, rfl, r1, r2⟩ := vals2 r
  cases (show u1 = Value.ref a from r1)
  cases (show u2 = Value.ref tp from r2)
  obtain ⟨od, J⟩ := inst_of hz hf ec ed I hdd
  obtain ⟨_, its, rv, o, h1, h2, n, h3⟩ := (show ObjOk X.prog X.w H s.heap tp (.tup cs) from I.hok tp _ hT)
  have e3 := ClsV.all hcv rv
  subst e3
  obtain ⟨oc, od2, dt, sl⟩ := o
  simp only at h2 h3
  subst h2 h3
  exact PySem.W.kia_tup (kit_own C) I.kIn J h1 e (fun z => nomatch z) fun tk => ⟨.bl b, H, I.tok tk, rfl, q⟩
/-! ### defs that may raise -/
structure DnX (P : Program) (w : World) (K : PySem.W.Frag) (mg : Str → Option Value) (base : Heap) (k : Nat) (x : Str) (st : Stmt) (ps : List Str) (sp : Sp) : Prop where
  ex : ∃ (f : Addr) (fd : FuncData), FunD K x x (defArgs st) (defBody st) (defScope st) [] [] f fd ∧ FnOk P w K mg base (L2.CX P w) k f fd ps sp ∧ mg x = some (.ref f) ∧ Binds K fd ps []
section
variable {P : Program} {w : World} {K : PySem.W.Frag} {mg : Str → Option Value} {base : Heap} {x : Str} {st : Stmt} {N ps : List Str} {k : Nat} {sp : Sp}
theorem dnx_ok (F : At K mg x st) (S : FnScope N ps (defScope st))
    (hb : ∀ (kV doc pm : Value) (an : Option Addr) (cdv ct : Value) (us : List Value), us.length = ps.length → bindArgs (PySem.W.fnOf x x (defArgs st) (defBody st) (defScope st) .none kV doc pm an cdv ct) ⟨us, []⟩ = pure (ps.zip us))
    (len : ∀ vs H Q E, sp vs H Q E → vs.length = ps.length)
    (hbody : ∀ (f : Addr) (cdv : Value) (A : Around) (outer : List Env) (s : Shared) (H : Hp) (vs : List V) (Q : VK) (E : XK), Room k (A.deeper (envOfC x (defScope st) s.heap.objs.size f cdv)) → sp vs H Q E →
      ∃ t, PSs (cxOf (L2.CX P w) P w K mg base N x (defScope st) f cdv A outer s H E) (defBody st) t ∧ t { nx := fun _ H' => Q .non H', rt := Q } (start N vs) H) : DnX P w K mg base (k + 1) x st ps sp := by
  obtain ⟨f, fd, F, g⟩ := F.ex
  exact ⟨f, fd, F, FunD.ok F S len (fun cdv A outer s H vs Q E hr h => hbody f cdv A outer s H vs Q E hr h), g, F.bindsN hb⟩
end
section
variable {X : Cx} {k j : Nat} {x : Str} {p pos : Pos} {ps : List Str} {sp : Sp} {e : Expr} {es : List Expr} {t : TA} {W : WX}
theorem pe_dnx {st : Stmt} (D : DnX X.prog X.w X.K X.mg X.base k x st ps sp) (tk : Takes X W) (hr : Room j X.A) (hk : k ≤ j) (hg : Gl X x) (ha : PA X (e :: es) t) (hdb : (x == ("__debug__" : Str)) = false := by decide)
    (he : starEach (e :: es) X.env = (false, eval e X.env) :: starEach es X.env := by rfl) (hpl : (backTo pos (starEach es X.env)).any (·.1) = false := by rfl) : PE X (.Call (.Name x p) (e :: es) [] pos) (tCallS sp (WE W) t) := by
  obtain ⟨f, fd, FD, F, hm, hb⟩ := D.ex
  exact pe_callS F (hr.mono hk) hg hm FD.kp hb (fun σ => passAt tk σ) ha (hdb := hdb) (he := he) (hpl := hpl)
end
/-! ### an own error class: made, raised -/
structure ErrC (P : Program) (w : World) (K : PySem.W.Frag) (mg : Str → Option Value) (base : Heap) (k : Nat) (n : Str) (C : Addr) (fld : Str) (Good : V → Prop) : Prop where
  oex : OexC K C
  mg_ : mg n = some (.ref C)
  ini : ∃ (fI : Addr) (fd : FuncData) (ps : List Str), PySem.W.findIn K (.ref C) "__init__" = some (some (.ref fI)) ∧ PySem.W.typeIn K (.ref fI) = some (.type "function") ∧ FnOk P w K mg base CX0 k fI fd ps (spInit C fld Good) ∧ Binds K fd ps []
def tRaiseO (C : Addr) (fld : Str) (Good : V → Prop) (W : WX) (te : TE) : TS := fun _ σ H => tMkO C (spInit C fld Good) [] (tCons te tNil) σ H fun cls d H' => W cls d σ H'
section
variable {X : Cx} {k j : Nat} {n fld : Str} {C : Addr} {Good : V → Prop} {p pos pos2 : Pos} {e : Expr} {te : TE} {W : WX}
theorem ps_raiseO (hc : X.calm = true) (T : ErrC X.prog X.w X.K X.mg X.base k n C fld Good) (hr : Room j X.A) (hk : k + 1 ≤ j) (tk : Takes X W) (hg : Gl X n) (he : PE X e te)
    (hdb : (n == ("__debug__" : Str)) = false := by decide) (hs : starEach (e :: []) X.env = (false, eval e X.env) :: starEach [] X.env := by rfl) (hpl : (backTo pos (starEach [] X.env)).any (·.1) = false := by rfl) :
    PS X (.Raise (some (.Call (.Name n p) [e] [] pos)) none pos2) (tRaiseO C fld Good W te) := by
  obtain ⟨fI, fd, ps, iC, tI, F, hb⟩ := T.ini
  exact ps_raise (pos := pos2) hc tk (pmk_oex (pos := pos) (p := p) (x := n) T.oex iC tI F (hr.mono hk) hb .nil pass0 hg T.mg_ (pa_cons he pa_nil hs) (hdb := hdb) (he := hs) (hpl := hpl))
end
theorem fresh_upd {H H1 : Hp} {a d : Addr} {o : HO} (e : Ex (upd H a o) H1) (h : H1 d = none) (hne : d ≠ a) : H d = none := by
  have := fresh_back e h
  rwa [upd_ne hne] at this
section
variable {σ : L2.St} {H : Hp} {te : TE} {z : V} {W : WX} {D : Ends} {C : Addr} {fld : Str} {Good : V → Prop} {tz : TS}
theorem s_raise (h : Ev te σ H z) (hg : Good z) (k : ∀ (d : Addr) (H2 : Hp), Ex H H2 → H d = none → H2 d = some (.xd [(fld, z)]) → W (.ref C) (some d) σ H2) : tRaiseO C fld Good W te D σ H :=
  h H (Ex.refl H) _ fun H1 e1 => ⟨by show 1 ≤ 1000; decide, fun a ha => ⟨a, z, rfl, upd_same, hg, fun H3 dx e3 hdx hne => by
    have hd1 : H1 dx = none := fresh_upd e3 hdx hne
    refine ⟨rfl, dx, [(fld, z)], upd_same, ?_, hd1, ?_⟩
    · rw [upd_ne hne, upd_same]
    · refine k dx _ (fun b o hb => ?_) (fresh_back e1 hd1) upd_same
      have hb1 := e1 _ _ hb
      have n1 : b ≠ a := fun q => by rw [q, ha] at hb1; cases hb1
      have n2 : b ≠ dx := fun q => by rw [q, hd1] at hb1; cases hb1
      rw [upd_ne n2, del_ne n1, upd_ne n1, upd_ne n2]
      exact e3 _ _ (by rw [upd_ne n1]; exact hb1)⟩⟩
theorem q_raise (h : Ev te σ H z) (hg : Good z) (k : ∀ (d : Addr) (H2 : Hp), Ex H H2 → H d = none → H2 d = some (.xd [(fld, z)]) → W (.ref C) (some d) σ H2) : tSeq (tRaiseO C fld Good W te) tz D σ H := s_raise h hg k
end
/-! ### the caught error's field, isinstance in the suite -/
section
variable {K : PySem.W.Frag} {σ : L2.St} {H : Hp} {ta tb te : TE} {z c : V} {cv : Value} {b : Bool} {C D dd a : Addr} {cls : Value} {d : Option Addr} {fld : Str} {fs : List (Str × V)}
theorem ev_xf (h : Ev te σ H (.ref a)) (ec : cls = .ref C) (ed : d = some dd) (hd : H dd = some (.xd fs)) (hl : fs.lookup fld = some z) : Ev (tXf a cls d C fld te) σ H z := fun H1 e Q q =>
  h H1 e _ fun H2 e2 => ⟨rfl, ec, dd, fs, z, ed, (e.trans e2) _ _ hd, hl, q H2 e2⟩
theorem ev_isX (h : Ev ta σ H (.ref a)) (hc : Ev tb σ H c) (k : ClsV c cv) (ec : cls = .ref D) (C : ExcC K D) (ed : d = some dd) (hd : H dd = some (.xd fs)) (e : PySem.W.kitOne K (.ref D) cv = some b) : Ev (tCB (rIsX K a cls d) (tCons ta (tCons tb tNil))) σ H (.bl b) := fun H1 e1 Q q =>
  h H1 e1 _ fun H2 e2 => hc H2 (e1.trans e2) _ fun H3 e3 => ⟨c, cv, b, D, dd, fs, rfl, ec, C, ed, ((e1.trans e2).trans e3) _ _ hd, k, e, q H3 (e2.trans e3)⟩
theorem ev_isXT {cs : List V} {ws : List Value} (h : Ev ta σ H (.ref a)) (hc : EvU tb σ H cs) (k : Paired ClsV cs ws) (ec : cls = .ref D) (C : ExcC K D) (ed : d = some dd) (hd : H dd = some (.xd fs)) (e : PySem.W.kitAny K (.ref D) ws = some b) : Ev (tCB (rIsXT K a cls d) (tCons ta (tCons tb tNil))) σ H (.bl b) := fun H1 e1 Q q =>
  h H1 e1 _ fun H2 e2 => hc H2 (e1.trans e2) _ fun p H3 _ e3 hp => ⟨p, cs, ws, b, D, dd, fs, rfl, hp, k, ec, C, ed, ((e1.trans e2).trans e3) _ _ hd, e, q H3 (e2.trans e3)⟩
end
end My

set_option Elab.async false
set_option linter.all false
set_option maxRecDepth 100000
set_option maxHeartbeats 4000000
namespace My
open PySem PySem.Spec PyProof.Rows L2 Evl
open SX (S S_len S_cat S_beq S_beq_eq S_inj S_tl)
/-- what an error's text may show -/
def ShowOk (z : V) : Prop := (∃ l : List Nat, z = .str (S l) ∧ l.length ≤ 10000 ∧ ∀ c ∈ l, c < 16 ^ 8) ∨ ∃ i : Int, z = .int i
theorem call_reprB {X : Cx} : CallR X (.builtin "repr") (fun xs H Q => (∃ y : Str, xs = [.str y] ∧ (reprText y).length ≤ sizeLine ∧ Q (.str (reprText y)) H) ∨ ∃ i : Int, xs = [.int i] ∧ i.natAbs.log2 < 1920 ∧ Q (.str (toString i)) H) := by
  intro pins s σ H xs us Q I r h
  rcases h with ⟨y, rfl, hz, q⟩ | ⟨i, rfl, hz, q⟩
  · obtain ⟨u, rfl, t, rfl⟩ := vals1 r
    exact PySem.P.repr_of_str ⟨.str _, H, I.tok _, ⟨_, rfl⟩, q⟩ hz
  · obtain ⟨u, rfl, t, rfl⟩ := vals1 r
    exact PySem.P.repr_of_int hz ⟨.str _, H, I.tok _, ⟨_, rfl⟩, q⟩
theorem rep_len {l : List Nat} (h : l.length ≤ 10000) (hc : ∀ c ∈ l, c < 16 ^ 8) : (reprText (S l)).length ≤ 100002 := by
  have := PySem.StrLaws.reprText_len (S l) hc
  have e := S_len l
  have h2 : (reprText (S l)).length ≤ 10 * (S l).length + 2 := this
  omega
theorem kit_str_int {K : PySem.W.Frag} : PySem.W.kitOne K (.type "str") (.type "int") = some false := by rfl
section
variable {σ : L2.St} {H : Hp} {ta : TE}
theorem ev_abs {i : Int} (ha : Ev ta σ H (.int i)) : Ev (tCB (fun xs H Q => ∃ i, xs = [.int i] ∧ Q (.int (if i < 0 then -i else i)) H) (tCons ta tNil)) σ H (.int (if i < 0 then -i else i)) := fun H1 e Q q =>
  ha H1 e _ fun H2 e2 => ⟨i, rfl, q H2 e2⟩
end
section
variable {P : Program} {w : World} {K : PySem.W.Frag} {mg : Str → Option Value} {base : Heap}
abbrev s_shown : Stmt := top 2
abbrev N_shown : List Str := ["value"]
theorem sc_shown : FnScope N_shown ["value"] (defScope s_shown) := ⟨rfl, rfl, rfl, by decide +kernel, rfl, by decide +kernel, by decide +kernel⟩
def spShown : Sp := fun vs H Q _ => ∃ z, vs = [z] ∧ ShowOk z ∧ ∀ y : Str, y.length ≤ 1000000 → RetV (.str y) H Q
theorem ok_shown (T : TT mg) (F : At K mg "_shown" s_shown) : Dn P w K mg base 1 "_shown" s_shown ["value"] spShown := by
  refine dn_ok F sc_shown (fun _ _ _ _ _ _ us hl => match us, hl with | [_], _ => rfl) (fun vs H Q E h => ?_) (fun f cdv A outer s H vs Q E hr h => ?_)
  · obtain ⟨z, rfl, _⟩ := h; rfl
  · obtain ⟨z, rfl, hz, q⟩ := h
    refine ⟨_, (pss_cons (ps_if (PW.pt (pw_and (pt_val (pe_callB call_isi (by rfl) T.isinstance (by decide +kernel) (pa_cons (pv 0) (pa_cons (pe_tyn "int" rfl T.int_ (by decide +kernel)) pa_nil)))) (pw_and1 (pt_cmpR op_ge (pe_callB call_abs (by rfl) T.abs (by decide +kernel) (pa_cons (pv 0) pa_nil)) (pe_op op_pow pe_int pe_int) (nomark _))))) (pss_one (ps_ret pe_str)) pss_nil)
      (pss_one (ps_ret (pe_callB call_reprB (by rfl) T.repr (by decide +kernel) (pa_cons (pv 0) pa_nil))))), ?_⟩
    rcases hz with ⟨l, rfl, hl, hc⟩ | ⟨i, rfl⟩
    · refine q_when (b := false && true) (et_and (et_B (ev_isi (ev_var rfl) ev_c (ClsV.ty "int") (fun _ _ => .base (.str _)) kit_str_int)) fun h => absurd h (by decide)) (fun h => absurd h (by decide)) fun _ H1 e1 => ?_
      have hrl := rep_len hl hc
      exact ev_var rfl H1 (Ex.refl H1) _ fun H2 e2 => .inl ⟨S l, rfl, Nat.le_trans hrl (by decide), q _ (by omega) H2 (e1.trans e2)⟩
    · refine q_when (et_and (et_B (ev_isi (ev_var rfl) ev_c (ClsV.ty "int") (fun _ _ => .base (.int i)) kit_int_int)) fun _ => et_test (ev_op (ev_abs (ev_var rfl)) (ev_op ev_c ev_c (rv_I (show CPow 10 30 by unfold CPow; exact ⟨by omega, by omega, by decide⟩))) rv_I0)) (fun h H1 e1 => ?_) (fun h H1 e1 => ?_)
      · exact s_ret ev_c fun H2 e2 => q _ (by decide) H2 (e1.trans e2)
      · have h2 : ¬ ((10 : Int) ^ 30 ≤ if i < 0 then -i else i) := fun z => by
          rw [Bool.true_and] at h
          exact of_decide_eq_false h z
        have h3 : i.natAbs < 2 ^ 100 := by
          have h4 : ((10 : Int) ^ 30) ≤ 2 ^ 100 := by decide +kernel
          have h5 : ((2 : Int) ^ 100) = ((2 ^ 100 : Nat) : Int) := by decide +kernel
          rw [h5] at h4
          generalize (2 : Nat) ^ 100 = Y at h4 ⊢
          generalize (10 : Int) ^ 30 = Z at h4 h2
          split at h2 <;> omega
        have h4 : i.natAbs.log2 < 1920 := by
          by_cases z : i.natAbs = 0
          · rw [z]; decide
          · have := (Nat.log2_lt z).mpr h3
            omega
        exact ev_var rfl H1 (Ex.refl H1) _ fun H2 e2 => .inr ⟨i, rfl, h4, q _ (Nat.le_trans (int_text_len_1921 h4) (by decide)) H2 (e1.trans e2)⟩
end
end My

set_option Elab.async false
set_option linter.all false
set_option maxRecDepth 100000
set_option maxHeartbeats 4000000
namespace My
open PySem PySem.Spec PyProof.Rows L2 Evl
open SX (S S_len S_cat S_beq S_beq_eq S_inj S_tl)
section
variable {P : Program} {w : World} {K : PySem.W.Frag} {mg : Str → Option Value} {base : Heap}
/-- an error's text: a fixed beginning, the value shown -/
def tTold (u : Str) : TE := fun σ H Q => tJs [tC (.str u), tFmt (tCall spShown [] E0 (tCons (tVar 1) tNil))] Str.empty σ H fun out H1 => Q (.str out) H1
theorem told_reads {u : Str} {σ : L2.St} {H : Hp} {z : V} {Q : V → Hp → Prop} (h1 : σ[1]? = some (some z)) (hz : ShowOk z) (hu : u.length ≤ 1000) (q : ∀ v H1, Ex H H1 → Q v H1) : tTold u σ H Q := by
  have e0 : (Str.empty ++ u).length = u.length := by
    show ((Str.empty).cps ++ u.cps).size = u.cps.size
    rw [Array.size_append]
    show 0 + _ = _
    omega
  refine ⟨u, rfl, by rw [e0]; exact Nat.le_trans hu (by decide), ?_⟩
  show (tVar 1) σ H _
  refine ev_var h1 H (Ex.refl H) _ fun H1 e1 => ⟨z, rfl, hz, fun y hy H2 e2 => .inl ⟨y, rfl, Nat.le_trans hy (by decide), y, rfl, ?_, q _ H2 (e1.trans e2)⟩⟩
  have e2 : (Str.empty ++ u ++ y).length = u.length + y.length := by
    show ((Str.empty ++ u).cps ++ y.cps).size = _
    rw [Array.size_append]
    show (Str.empty ++ u).length + _ = _
    rw [e0]
    rfl
  rw [e2]
  exact Nat.le_trans (Nat.add_le_add hu hy) (by decide)
abbrev s_BadAlphabet_init : Stmt := inClass (top 4) 0
abbrev N_BadAlphabet_init : List Str := ["self", "alphabet", "__class__"]
theorem ns_BadAlphabet : NdefX.NScope N_BadAlphabet_init ["self", "alphabet"] ["__class__"] (defScope s_BadAlphabet_init) := by
  constructor <;> first | rfl | decide +kernel
theorem init_BadAlphabet {C f c cc : Addr} {oc kV doc pm ct : Value} {od an : Option Addr} {osl : Array (Option Value)} (D_shown : Dn P w K mg base 1 "_shown" s_shown ["value"] spShown) (SC : SupC P K mg C f c cc)
    (lk : K.lookup f = some ⟨oc, od, .func (PySem.W.fnX "__init__" "BadAlphabet.__init__" (defArgs s_BadAlphabet_init) (defBody s_BadAlphabet_init) (defScope s_BadAlphabet_init) [("__class__", cc)] .none kV doc pm an (.ref c) ct), osl⟩)
    (hcr : ∃ o vs t, K.lookup c = some o ∧ o.data = .fields vs ∧ vs[1]? = some (.str "BadAlphabet.__init__" t)) (nof : PySem.W.findIn K (.ref C) "alphabet" = some none) :
    FnOk P w K mg base CX0 2 f (PySem.W.fnX "__init__" "BadAlphabet.__init__" (defArgs s_BadAlphabet_init) (defBody s_BadAlphabet_init) (defScope s_BadAlphabet_init) [("__class__", cc)] .none kV doc pm an (.ref c) ct) ["self", "alphabet"] (spInit C "alphabet" ShowOk) := by
  refine excinit_ok (k := 1) (N := N_BadAlphabet_init) SC lk hcr ns_BadAlphabet rfl rfl nof (fun A outer s H E hr s1 σ H1 D a z I hσ hH hg k => ?_) (fun A outer s H E => ?_)
  · subst hσ
    refine at_super (X := NdefX.ncx CX0 P w K mg base N_BadAlphabet_init (nfOf "BadAlphabet.__init__" s_BadAlphabet_init cc c) f A outer s H E) (te := tTold "not an alphabet: ") SC rfl rfl rfl rfl lk rfl rfl rfl rfl ?_ rfl ?_ I rfl hH (told_reads rfl hg (by decide) fun v H2 e2 => ⟨e2 _ _ hH, k H2 e2⟩) rfl rfl rfl rfl rfl
    · first | exact Or.inl rfl | rfl | (constructor <;> rfl) | decide +kernel
    · exact pe_joined (.cons pe_str (.cons (pe_fmt (pe_dn D_shown hr (by decide) rfl (pa_cons (pv 1) pa_nil))) .nil))
  · exact pss_one (ps_ost (pv 0) (pv 1))
end
end My

set_option Elab.async false
set_option linter.all false
set_option maxRecDepth 100000
set_option maxHeartbeats 4000000
namespace My
/-! ### how many texts have 1 to w letters, and how many letters they have together -/
def Sn (s : Nat) : Nat → Nat
  | 0 => 0
  | w + 1 => Sn s w + s ^ (w + 1)
def Bn (s : Nat) : Nat → Nat
  | 0 => 0
  | w + 1 => Bn s w + (w + 1) * s ^ (w + 1)
/-- t is the least total of c texts -/
def Tot (s c t : Nat) : Prop := ∃ w j, c = Sn s w + j ∧ j ≤ s ^ (w + 1) ∧ t = Bn s w + (w + 1) * j
theorem Sn_mono {s : Nat} : ∀ {v w : Nat}, v ≤ w → Sn s v ≤ Sn s w
  | v, 0, h => by
    have : v = 0 := by omega
    rw [this]
    exact Nat.le_refl _
  | v, w + 1, h => by
    by_cases e : v = w + 1
    · rw [e]
      exact Nat.le_refl _
    · exact Nat.le_trans (Sn_mono (v := v) (w := w) (by omega)) (Nat.le_add_right _ _)
theorem Bn_mono {s : Nat} : ∀ {v w : Nat}, v ≤ w → Bn s v ≤ Bn s w
  | v, 0, h => by
    have : v = 0 := by omega
    rw [this]
    exact Nat.le_refl _
  | v, w + 1, h => by
    by_cases e : v = w + 1
    · rw [e]
      exact Nat.le_refl _
    · exact Nat.le_trans (Bn_mono (v := v) (w := w) (by omega)) (Nat.le_add_right _ _)
theorem pow_pos' {s : Nat} (h : 1 ≤ s) (w : Nat) : 1 ≤ s ^ w := Nat.one_le_pow _ _ h
/-- fewer texts have fewer letters -/
theorem tot_le {s c d t u : Nat} (hs : 1 ≤ s) (h1 : Tot s c t) (h2 : Tot s d u) (h : c ≤ d) : t ≤ u := by
  obtain ⟨w, j, e1, hj, rfl⟩ := h1
  obtain ⟨v, i, e2, hi, rfl⟩ := h2
  by_cases hw : w < v
  · have a := Bn_mono (s := s) (show w + 1 ≤ v by omega)
    have b : (w + 1) * j ≤ (w + 1) * s ^ (w + 1) := Nat.mul_le_mul_left _ hj
    have c : Bn s (w + 1) = Bn s w + (w + 1) * s ^ (w + 1) := rfl
    omega
  · by_cases hv : v < w
    · have a := Sn_mono (s := s) (show v + 1 ≤ w by omega)
      have b : Sn s (v + 1) = Sn s v + s ^ (v + 1) := rfl
      have hi2 : i = s ^ (v + 1) := by omega
      have hj0 : j = 0 := by omega
      have hS : Sn s w = Sn s (v + 1) := by omega
      have hvw : w = v + 1 := by
        by_cases z : v + 2 ≤ w
        · have c1 := Sn_mono (s := s) z
          have c2 : Sn s (v + 2) = Sn s (v + 1) + s ^ (v + 2) := rfl
          have c3 := pow_pos' hs (v + 2)
          omega
        · omega
      subst hvw hi2 hj0
      exact Nat.le_of_eq rfl
    · have : w = v := by omega
      subst this
      have hji : j ≤ i := by omega
      exact Nat.add_le_add_left (Nat.mul_le_mul_left _ hji) _
theorem tot_uniq {s c t u : Nat} (hs : 1 ≤ s) (h1 : Tot s c t) (h2 : Tot s c u) : t = u :=
  Nat.le_antisymm (tot_le hs h1 h2 (Nat.le_refl _)) (tot_le hs h2 h1 (Nat.le_refl _))
theorem tot_succ {s w j : Nat} (hs : 1 ≤ s) (hj : j ≤ s ^ (w + 1)) : ∃ k, Tot s (Sn s w + j + 1) (Bn s w + (w + 1) * j + k) ∧ w + 1 ≤ k := by
  by_cases e : j = s ^ (w + 1)
  · refine ⟨w + 2, ⟨w + 1, 1, ?_, pow_pos' hs _, ?_⟩, by omega⟩
    · show _ = Sn s w + s ^ (w + 1) + 1
      omega
    · show _ = Bn s w + (w + 1) * s ^ (w + 1) + (w + 1 + 1) * 1
      rw [e]
      omega
  · refine ⟨w + 1, ⟨w, j + 1, by omega, by omega, ?_⟩, Nat.le_refl _⟩
    rw [Nat.mul_add]
    omega
/-- one text more has more letters -/
theorem tot_lt {s c d t u : Nat} (hs : 1 ≤ s) (h1 : Tot s c t) (h2 : Tot s d u) (h : c < d) : t < u := by
  obtain ⟨w, j, e1, hj, e3⟩ := h1
  obtain ⟨k, h3, hk⟩ := tot_succ hs hj
  have := tot_le hs h3 h2 (by omega)
  omega
/-- each depth bounds the total from below -/
theorem tot_depth {s c t : Nat} (hs : 1 ≤ s) (h : Tot s c t) : ∀ d, (d + 1) * c ≤ t + (d + 1) * Sn s d := by
  obtain ⟨w, j, rfl, hj, rfl⟩ := h
  have key : ∀ w, ∀ d, (d + 1) * Sn s w ≤ Bn s w + (d + 1) * Sn s d := by
    intro w
    induction w with
    | zero => intro d; simp [Sn]
    | succ w ih =>
      intro d
      by_cases hd : w + 1 ≤ d
      · have := Sn_mono (s := s) hd
        have := Nat.mul_le_mul_left (d + 1) this
        omega
      · have a := ih d
        have b : (d + 1) * s ^ (w + 1) ≤ (w + 1) * s ^ (w + 1) := Nat.mul_le_mul_right _ (by omega)
        show (d + 1) * (Sn s w + s ^ (w + 1)) ≤ Bn s w + (w + 1) * s ^ (w + 1) + _
        rw [Nat.mul_add]
        omega
  intro d
  by_cases hd : w < d
  · have a : Sn s w + j ≤ Sn s d := by
      have := Sn_mono (s := s) (show w + 1 ≤ d by omega)
      have c : Sn s (w + 1) = Sn s w + s ^ (w + 1) := rfl
      omega
    have := Nat.mul_le_mul_left (d + 1) a
    omega
  · have a := key w d
    have b : (d + 1) * j ≤ (w + 1) * j := Nat.mul_le_mul_right _ (by omega)
    rw [Nat.mul_add]
    omega
/-! ### one letter -/
theorem Sn_one : ∀ w, Sn 1 w = w
  | 0 => rfl
  | w + 1 => by show Sn 1 w + 1 ^ (w + 1) = w + 1; rw [Sn_one w, Nat.one_pow]
theorem Bn_one : ∀ w, 2 * Bn 1 w = w * (w + 1)
  | 0 => rfl
  | w + 1 => by
    show 2 * (Bn 1 w + (w + 1) * 1 ^ (w + 1)) = (w + 1) * (w + 1 + 1)
    rw [Nat.one_pow, Nat.mul_add, Bn_one w, Nat.mul_one, ← Nat.add_mul, Nat.mul_comm]
theorem tot_one (c : Nat) : Tot 1 c (c * (c + 1) / 2) := by
  refine ⟨c, 0, by rw [Sn_one]; rfl, Nat.zero_le _, ?_⟩
  have := Bn_one c
  omega
/-- fewer letters, no more texts: with one letter they are the longest -/
theorem tot_base {s c t u : Nat} (hs : 1 ≤ s) (h : Tot s c t) (h1 : Tot 1 c u) : t ≤ u := by
  obtain ⟨w, j, rfl, hj, rfl⟩ := h
  have key : ∀ w, w ≤ Sn s w := by
    intro w
    induction w with
    | zero => exact Nat.le_refl _
    | succ w ih =>
      have := pow_pos' hs (w + 1)
      show w + 1 ≤ Sn s w + s ^ (w + 1)
      omega
  -- by counting: the total is at most that of one letter, text by text
  have tri : ∀ n m, n * (n + 1) + 2 * ((n + 1) * m) ≤ (n + m) * (n + m + 1) := by
    intro n m
    have e : (n + m) * (n + m + 1) = n * (n + 1) + 2 * ((n + 1) * m) + m * (m - 1) := by
      cases m with
      | zero => simp
      | succ m =>
        have : (n + (m + 1)) * (n + (m + 1) + 1) = n * (n + 1) + 2 * ((n + 1) * (m + 1)) + (m + 1) * m := by
          simp only [Nat.mul_add, Nat.add_mul, Nat.mul_one, Nat.one_mul]
          have : m * n = n * m := Nat.mul_comm _ _
          omega
        exact this
    omega
  have hB : ∀ w, 2 * Bn s w ≤ Sn s w * (Sn s w + 1) := by
    intro w
    induction w with
    | zero => exact Nat.le_refl _
    | succ w ih =>
      have a := tri (Sn s w) (s ^ (w + 1))
      have b : (w + 1) * s ^ (w + 1) ≤ (Sn s w + 1) * s ^ (w + 1) := Nat.mul_le_mul_right _ (by have := key w; omega)
      show 2 * (Bn s w + (w + 1) * s ^ (w + 1)) ≤ (Sn s w + s ^ (w + 1)) * (Sn s w + s ^ (w + 1) + 1)
      omega
  have hu := tot_uniq (by decide) h1 (tot_one _)
  have a := tri (Sn s w) j
  have b : (w + 1) * j ≤ (Sn s w + 1) * j := Nat.mul_le_mul_right _ (by have := key w; omega)
  have c := hB w
  omega
end My

set_option Elab.async false
set_option linter.all false
set_option maxRecDepth 100000
set_option maxHeartbeats 4000000
namespace My
theorem tot_ex {s : Nat} (hs : 1 ≤ s) : ∀ c, ∃ t, Tot s c t
  | 0 => ⟨0, 0, 0, rfl, Nat.zero_le _, rfl⟩
  | c + 1 => by
    obtain ⟨t, w, j, e, hj, _⟩ := tot_ex hs c
    obtain ⟨k, h, _⟩ := tot_succ hs hj
    exact ⟨_, by rw [e]; exact h⟩
open Classical in
noncomputable def totF (s c : Nat) : Nat := if h : ∃ t, Tot s c t then h.choose else 0
theorem totF_spec {s c : Nat} (hs : 1 ≤ s) : Tot s c (totF s c) := by
  unfold totF
  rw [dif_pos (tot_ex hs c)]
  exact (tot_ex hs c).choose_spec
theorem totF_is {s c t : Nat} (hs : 1 ≤ s) (h : Tot s c t) : totF s c = t := tot_uniq hs (totF_spec hs) h
theorem totF_lt {s c d : Nat} (hs : 1 ≤ s) (h : c < d) : totF s c < totF s d := tot_lt hs (totF_spec hs) (totF_spec hs) h
theorem totF_le {s c d : Nat} (hs : 1 ≤ s) (h : c ≤ d) : totF s c ≤ totF s d := tot_le hs (totF_spec hs) (totF_spec hs) h
theorem totF_ge {s c : Nat} (hs : 1 ≤ s) : c ≤ totF s c := by
  have := tot_depth hs (totF_spec (c := c) hs) 0
  simp [Sn] at this
  exact this
/-- the greatest count of so many letters -/
def Gr (s far c : Nat) : Prop := totF s c ≤ far ∧ far < totF s (c + 1)
theorem gr_uniq {s far c d : Nat} (hs : 1 ≤ s) (h1 : Gr s far c) (h2 : Gr s far d) : c = d := by
  by_cases a : c < d
  · have := totF_le hs (show c + 1 ≤ d by omega)
    have := h1.2
    have := h2.1
    omega
  · by_cases b : d < c
    · have := totF_le hs (show d + 1 ≤ c by omega)
      have := h1.1
      have := h2.2
      omega
    · omega
theorem gr_loop {s w rest far : Nat} (hs : 1 ≤ s) (h : far = Bn s w + rest) (hr : rest ≤ s ^ (w + 1) * (w + 1)) : Gr s far (Sn s w + rest / (w + 1)) := by
  have hj : rest / (w + 1) ≤ s ^ (w + 1) := by
    apply Nat.div_le_of_le_mul
    rw [Nat.mul_comm]
    exact hr
  have h1 : Tot s (Sn s w + rest / (w + 1)) (Bn s w + (w + 1) * (rest / (w + 1))) := ⟨w, _, rfl, hj, rfl⟩
  obtain ⟨k, h2, hk⟩ := tot_succ hs hj
  have a := Nat.div_mul_le_self rest (w + 1)
  have b := Nat.lt_div_mul_add (a := rest) (b := w + 1) (by omega)
  rw [Nat.mul_comm] at a b
  refine ⟨?_, ?_⟩
  · rw [totF_is hs h1]
    omega
  · rw [totF_is hs h2]
    omega
theorem sq_step (a b : Nat) (h : a ≤ b) : a * a ≤ b * b := Nat.mul_le_mul h h
theorem gr_one {L r : Nat} (h1 : r * r ≤ 8 * L + 1) (h2 : 8 * L + 1 < (r + 1) * (r + 1)) : Gr 1 L ((r - 1) / 2) := by
  have hr : 1 ≤ r := by
    by_cases z : r = 0
    · subst z; simp at h2
    · omega
  obtain ⟨n, hn⟩ : ∃ n, n = (r - 1) / 2 := ⟨_, rfl⟩
  rw [← hn]
  have a : 2 * n + 1 ≤ r := by omega
  have b : r + 1 ≤ 2 * n + 3 := by omega
  have a2 := sq_step _ _ a
  have b2 := sq_step _ _ b
  have e1 : (2 * n + 1) * (2 * n + 1) = 4 * (n * (n + 1)) + 1 := by
    simp only [Nat.mul_add, Nat.add_mul, Nat.mul_one, Nat.one_mul]
    have : 2 * n * (2 * n) = 4 * (n * n) := by rw [Nat.mul_mul_mul_comm]
    omega
  have e2 : (2 * n + 3) * (2 * n + 3) = 4 * ((n + 1) * (n + 1 + 1)) + 1 := by
    simp only [Nat.mul_add, Nat.add_mul, Nat.mul_one, Nat.one_mul]
    have : 2 * n * (2 * n) = 4 * (n * n) := by rw [Nat.mul_mul_mul_comm]
    omega
  refine ⟨?_, ?_⟩
  · rw [totF_is (by decide) (tot_one n)]
    omega
  · rw [totF_is (by decide) (tot_one (n + 1))]
    have ev : ∃ k, (n + 1) * (n + 1 + 1) = 2 * k := by
      have := Nat.mod_two_eq_zero_or_one n
      rcases this with z | z
      · exact ⟨(n / 2 + 1) * (n + 1), by
          have e : n + 1 + 1 = 2 * (n / 2 + 1) := by omega
          rw [e, Nat.mul_comm (n + 1), Nat.mul_assoc]⟩
      · exact ⟨(n + 1) / 2 * (n + 1 + 1), by
          have e : n + 1 = 2 * ((n + 1) / 2) := by omega
          rw [← Nat.mul_assoc, ← e]⟩
    obtain ⟨k, hk⟩ := ev
    rw [hk] at e2 ⊢
    omega
/-- the least count of so many letters -/
def Le (L n : Nat) : Prop := 2 * L ≤ n * (n + 3) ∧ (n = 0 ∨ (n - 1) * (n + 2) < 2 * L)
theorem le_of {L r : Nat} (h1 : r * r ≤ 8 * L + 9) (h2 : 8 * L + 9 < (r + 1) * (r + 1)) : Le L (if (r - 3) / 2 * ((r - 3) / 2 + 3) < 2 * L then (r - 3) / 2 + 1 else (r - 3) / 2) := by
  have hr : 3 ≤ r := by
    by_cases z : r ≤ 2
    · have := sq_step (r + 1) 3 (by omega)
      omega
    · omega
  obtain ⟨n, hn⟩ : ∃ n, n = (r - 3) / 2 := ⟨_, rfl⟩
  rw [← hn]
  have a2 := sq_step _ _ (show 2 * n + 3 ≤ r by omega)
  have b2 := sq_step _ _ (show r + 1 ≤ 2 * n + 5 by omega)
  have sq : 2 * n * (2 * n) = 4 * (n * n) := by rw [Nat.mul_mul_mul_comm]
  have e1 : (2 * n + 3) * (2 * n + 3) = 4 * (n * (n + 3)) + 9 := by
    simp only [Nat.mul_add, Nat.add_mul, Nat.mul_one, Nat.one_mul]
    omega
  have e2 : (2 * n + 5) * (2 * n + 5) = 4 * ((n + 1) * (n + 1 + 3)) + 9 := by
    simp only [Nat.mul_add, Nat.add_mul, Nat.mul_one, Nat.one_mul]
    omega
  split
  · rename_i hlt
    refine ⟨by omega, Or.inr ?_⟩
    show (n + 1 - 1) * (n + 1 + 2) < 2 * L
    rw [Nat.add_sub_cancel]
    exact hlt
  · rename_i hge
    refine ⟨by omega, ?_⟩
    cases n with
    | zero => exact Or.inl rfl
    | succ n =>
      refine Or.inr ?_
      have e3 : (n + 1) * (n + 1 + 3) = (n + 1 - 1) * (n + 1 + 2) + (2 * n + 4) := by
        rw [Nat.add_sub_cancel]
        simp only [Nat.mul_add, Nat.add_mul, Nat.mul_one, Nat.one_mul]
        omega
      omega
theorem le_mono {n m : Nat} (h : n ≤ m) : n * (n + 3) ≤ m * (m + 3) := Nat.mul_le_mul h (by omega)
theorem le_uniq {L n m : Nat} (h1 : Le L n) (h2 : Le L m) : n = m := by
  have key : ∀ {n m : Nat}, Le L n → Le L m → ¬ n < m := by
    intro n m h1 h2 c
    rcases h2.2 with z | z
    · omega
    · have := le_mono (show n ≤ m - 1 by omega)
      have e : m - 1 + 3 = m + 2 := by omega
      rw [e] at this
      have := h1.1
      omega
  have := key h1 h2
  have := key h2 h1
  omega
theorem le_far {L n : Nat} (h : Le L n) : n ≤ L := by
  rcases h.2 with z | z
  · omega
  · obtain ⟨m, rfl⟩ : ∃ m, n = m + 1 := ⟨n - 1, by
      by_cases z : n = 0
      · subst z; have := h.1; omega
      · omega⟩
    rw [Nat.add_sub_cancel] at z
    by_cases c : m = 0
    · subst c; omega
    · have : m * 4 ≤ m * (m + 1 + 2) := Nat.mul_le_mul_left _ (by omega)
      omega
theorem gr_le {L n : Nat} (h : Gr 1 L n) : Le L n := by
  obtain ⟨h1, h2⟩ := h
  rw [totF_is (by decide) (tot_one n)] at h1
  rw [totF_is (by decide) (tot_one (n + 1))] at h2
  have e1 : n * (n + 3) = n * (n + 1) + 2 * n := by rw [show n + 3 = n + 1 + 2 by omega, Nat.mul_add]; omega
  have e2 : (n + 1) * (n + 1 + 1) = n * (n + 1) + 2 * n + 2 := by
    simp only [Nat.mul_add, Nat.add_mul, Nat.mul_one, Nat.one_mul]
    omega
  have ev : ∃ k, n * (n + 1) = 2 * k := by
    rcases Nat.mod_two_eq_zero_or_one n with z | z
    · exact ⟨n / 2 * (n + 1), by
        have e : n = 2 * (n / 2) := by omega
        rw [← Nat.mul_assoc, ← e]⟩
    · exact ⟨n * ((n + 1) / 2), by
        have e : n + 1 = 2 * ((n + 1) / 2) := by omega
        conv => lhs; rw [e]
        rw [← Nat.mul_assoc, Nat.mul_comm n 2, Nat.mul_assoc]⟩
  obtain ⟨k, hk⟩ := ev
  refine ⟨by omega, ?_⟩
  cases n with
  | zero => exact Or.inl rfl
  | succ n =>
    refine Or.inr ?_
    have e3 : (n + 1) * (n + 1 + 1) = (n + 1 - 1) * (n + 1 + 2) + 2 := by
      rw [Nat.add_sub_cancel]
      simp only [Nat.mul_add, Nat.add_mul, Nat.mul_one, Nat.one_mul]
      omega
    omega
theorem gr_base {s L n m : Nat} (hs : 1 ≤ s) (h1 : Gr 1 L n) (h2 : Gr s L m) : n ≤ m := by
  by_cases c : m < n
  · have a := totF_le hs (show m + 1 ≤ n by omega)
    have b := tot_base hs (totF_spec (c := n) hs) (totF_spec (s := 1) (by decide))
    have := h1.1
    have := h2.2
    omega
  · omega
theorem gr_depth {s L m : Nat} (hs : 1 ≤ s) (h : Gr s L m) (d : Nat) : m ≤ L / (d + 1) + Sn s d := by
  have a := tot_depth hs (totF_spec (c := m) hs) d
  have b := h.1
  have c : (d + 1) * (m - Sn s d) ≤ L := by
    rw [Nat.mul_sub]
    omega
  have := (Nat.le_div_iff_mul_le (show 0 < d + 1 by omega)).mpr (by rw [Nat.mul_comm]; exact c)
  omega
theorem gr_ex {s : Nat} (hs : 1 ≤ s) (L : Nat) : ∃ c, Gr s L c := by
  have key : ∀ n, L < totF s n → ∃ c, Gr s L c := by
    intro n
    induction n with
    | zero =>
      intro h
      have e : totF s 0 = 0 := totF_is hs ⟨0, 0, rfl, Nat.zero_le _, rfl⟩
      omega
    | succ n ih =>
      intro h
      by_cases c : L < totF s n
      · exact ih c
      · exact ⟨n, by omega, h⟩
  exact key (L + 1) (totF_ge hs)
open Classical in
noncomputable def grF (s L : Nat) : Nat := if h : ∃ c, Gr s L c then h.choose else 0
theorem grF_spec {s L : Nat} (hs : 1 ≤ s) : Gr s L (grF s L) := by
  unfold grF
  rw [dif_pos (gr_ex hs L)]
  exact (gr_ex hs L).choose_spec
theorem grF_is {s L c : Nat} (hs : 1 ≤ s) (h : Gr s L c) : grF s L = c := gr_uniq hs (grF_spec hs) h
theorem grF_le {s L : Nat} (hs : 1 ≤ s) : grF s L ≤ L := Nat.le_trans (totF_ge hs) (grF_spec hs).1
/-- the count of the letters of c texts -/
theorem grF_tot {s c : Nat} (hs : 1 ≤ s) : grF s (totF s c) = c := grF_is hs ⟨Nat.le_refl _, totF_lt hs (Nat.lt_succ_self c)⟩
theorem grF_tot1 {s c : Nat} (hs : 1 ≤ s) (h : 1 ≤ totF s c) : grF s (totF s c - 1) + 1 = c := by
  have hc : 1 ≤ c := by
    by_cases z : c = 0
    · subst z
      have e : totF s 0 = 0 := totF_is hs ⟨0, 0, rfl, Nat.zero_le _, rfl⟩
      omega
    · omega
  obtain ⟨d, rfl⟩ : ∃ d, c = d + 1 := ⟨c - 1, by omega⟩
  have : grF s (totF s (d + 1) - 1) = d := grF_is hs ⟨by have := totF_lt hs (Nat.lt_add_one d); omega, by omega⟩
  omega
theorem totF_cap {s c : Nat} (hs : 1 ≤ s) : totF s c ≤ c * (c + 1) / 2 := tot_base hs (totF_spec hs) (tot_one c)
def cap : Nat := 10 ^ 30 + 1
theorem totF_big {s c : Nat} (hs : 1 ≤ s) (h : c ≤ cap) : totF s c < 2 ^ 250 := by
  have a := totF_cap (c := c) hs
  have b : c * (c + 1) ≤ cap * (cap + 1) := Nat.mul_le_mul h (by omega)
  have d : cap * (cap + 1) < 2 ^ 250 := by decide +kernel
  omega
theorem level_small {s w : Nat} (hs : 2 ≤ s) (h : s ^ w ≤ 6 * cap) : w ≤ 110 := by
  by_cases c : 111 ≤ w
  · have a : 2 ^ 111 ≤ 2 ^ w := Nat.pow_le_pow_right (by decide) c
    have b : 2 ^ w ≤ s ^ w := Nat.pow_le_pow_left hs w
    have d : 6 * cap < 2 ^ 111 := by decide +kernel
    omega
  · omega
theorem cap_lt : cap < 2 ^ 101 := by decide +kernel
end My

set_option Elab.async false
set_option linter.all false
set_option maxRecDepth 100000
set_option maxHeartbeats 4000000
namespace My
/-! ### all words in order: word 0 is empty, word a * s + k + 1 is word a and the letter k -/
def wdF (l : List Nat) : Nat → List Nat
  | 0 => []
  | n + 1 => wdF l (n / l.length) ++ [l.getD (n % l.length) 0]
termination_by n => n
decreasing_by exact Nat.lt_succ_of_le (Nat.div_le_self _ _)
theorem wd_zero (l : List Nat) : wdF l 0 = [] := by rw [wdF]
theorem wd_succ (l : List Nat) (n : Nat) : wdF l (n + 1) = wdF l (n / l.length) ++ [l.getD (n % l.length) 0] := by rw [wdF]
theorem dm_at {a k s : Nat} (h : k < s) : (a * s + k) / s = a ∧ (a * s + k) % s = k := by
  constructor
  · rw [Nat.mul_comm, Nat.mul_add_div (by omega), Nat.div_eq_of_lt h, Nat.add_zero]
  · rw [Nat.mul_comm, Nat.mul_add_mod, Nat.mod_eq_of_lt h]
theorem wd_at {l : List Nat} {a k : Nat} (h : k < l.length) : wdF l (a * l.length + k + 1) = wdF l a ++ [l.getD k 0] := by
  rw [wd_succ, (dm_at h).1, (dm_at h).2]
theorem wd_sub {l : List Nat} (h : 1 ≤ l.length) : ∀ n, ∀ c ∈ wdF l n, c ∈ l := by
  intro n
  induction n using Nat.strongRecOn with
  | _ n ih =>
    cases n with
    | zero => rw [wd_zero]; intro c hc; cases hc
    | succ n =>
      rw [wd_succ]
      intro c hc
      rcases List.mem_append.mp hc with hc | hc
      · exact ih _ (Nat.lt_succ_of_le (Nat.div_le_self _ _)) c hc
      · rw [List.mem_singleton.mp hc]
        have : n % l.length < l.length := Nat.mod_lt _ h
        rw [List.getD_eq_getElem?_getD, List.getElem?_eq_getElem this]
        exact List.getElem_mem this
def rwF (l : List Nat) (n : Nat) : List (Nat × Nat) := (List.range n).map fun i => (i / l.length, l.getD (i % l.length) 0)
theorem rw_len (l : List Nat) (n : Nat) : (rwF l n).length = n := by unfold rwF; rw [List.length_map, List.length_range]
theorem rw_get {l : List Nat} {n i : Nat} {r : Nat × Nat} (h : (rwF l n)[i]? = some r) : i < n ∧ r = (i / l.length, l.getD (i % l.length) 0) := by
  have hi := (List.getElem?_eq_some_iff.mp h).1
  rw [rw_len] at hi
  unfold rwF at h
  rw [List.getElem?_map, List.getElem?_range hi] at h
  exact ⟨hi, (Option.some.inj h).symm⟩
theorem getD_inj {l : List Nat} (nd : l.Nodup) {i j : Nat} (hi : i < l.length) (hj : j < l.length) (e : l.getD i 0 = l.getD j 0) : i = j := by
  rw [List.getD_eq_getElem?_getD, List.getD_eq_getElem?_getD, List.getElem?_eq_getElem hi, List.getElem?_eq_getElem hj] at e
  exact (List.getElem_inj nd).mp e
theorem rw_row {l : List Nat} (nd : l.Nodup) {n a k m : Nat} (hk : k < l.length) (h : (rwF l n)[m]? = some (a, l.getD k 0)) : m = a * l.length + k := by
  obtain ⟨_, e⟩ := rw_get h
  have e1 : a = m / l.length := congrArg (·.1) e
  have e2 : l.getD k 0 = l.getD (m % l.length) 0 := congrArg (·.2) e
  have e3 := getD_inj nd hk (Nat.mod_lt _ (by omega)) e2
  have := Nat.div_add_mod m l.length
  rw [← e1, ← e3, Nat.mul_comm] at this
  exact this.symm
theorem step_old {l : List Nat} (nd : l.Nodup) {n a k : Nat} (hk : k < l.length) (h : a * l.length + k < n) : stepC (rwF l n, a) (l.getD k 0) = (rwF l n, a * l.length + k + 1) := by
  unfold stepC
  cases e : ixR 1 (rwF l n) (a, l.getD k 0) with
  | some m =>
    obtain ⟨h1, h2⟩ := ixR_some e
    have := rw_row nd hk h2
    show (rwF l n, m) = _
    rw [show m = a * l.length + k + 1 by omega]
  | none =>
    exfalso
    refine ixR_none e (List.mem_iff_getElem?.mpr ⟨a * l.length + k, ?_⟩)
    unfold rwF
    rw [List.getElem?_map, List.getElem?_range h]
    show some ((a * l.length + k) / l.length, l.getD ((a * l.length + k) % l.length) 0) = _
    rw [(dm_at hk).1, (dm_at hk).2]
theorem rw_succ (l : List Nat) (n : Nat) : rwF l (n + 1) = rwF l n ++ [(n / l.length, l.getD (n % l.length) 0)] := by
  unfold rwF
  rw [List.range_succ, List.map_append]
  rfl
theorem step_new {l : List Nat} (nd : l.Nodup) {n a k : Nat} (hk : k < l.length) (h : a * l.length + k = n) : stepC (rwF l n, a) (l.getD k 0) = (rwF l (n + 1), 0) := by
  unfold stepC
  cases e : ixR 1 (rwF l n) (a, l.getD k 0) with
  | some m =>
    obtain ⟨h1, h2⟩ := ixR_some e
    have := rw_row nd hk h2
    have := (rw_get h2).1
    omega
  | none =>
    show (rwF l n ++ [(a, l.getD k 0)], 0) = _
    rw [rw_succ, ← h, (dm_at hk).1, (dm_at hk).2]
theorem read_old {l : List Nat} (nd : l.Nodup) (h1 : 1 ≤ l.length) {n : Nat} : ∀ m, m ≤ n → (wdF l m).foldl stepC (rwF l n, 0) = (rwF l n, m) := by
  intro m
  induction m using Nat.strongRecOn with
  | _ m ih =>
    intro hm
    cases m with
    | zero => rw [wd_zero]; rfl
    | succ m =>
      have hd := Nat.div_le_self m l.length
      have hmod := Nat.mod_lt m (show 0 < l.length by omega)
      have hdm := Nat.div_add_mod m l.length
      rw [Nat.mul_comm] at hdm
      rw [wd_succ, List.foldl_append, ih (m / l.length) (by omega) (by omega)]
      show stepC (rwF l n, m / l.length) (l.getD (m % l.length) 0) = _
      rw [step_old nd hmod (by omega), hdm]
theorem read_new {l : List Nat} (nd : l.Nodup) (h1 : 1 ≤ l.length) (n : Nat) : (wdF l (n + 1)).foldl stepC (rwF l n, 0) = (rwF l (n + 1), 0) := by
  have hd := Nat.div_le_self n l.length
  have hmod := Nat.mod_lt n (show 0 < l.length by omega)
  have hdm := Nat.div_add_mod n l.length
  rw [Nat.mul_comm] at hdm
  rw [wd_succ, List.foldl_append, read_old nd h1 (n / l.length) hd]
  exact step_new nd hmod hdm
def flF8 (l : List Nat) (n : Nat) : List Nat := ((List.range n).map fun i => wdF l (i + 1)).flatten
theorem fl_succ (l : List Nat) (n : Nat) : flF8 l (n + 1) = flF8 l n ++ wdF l (n + 1) := by
  unfold flF8
  rw [List.range_succ, List.map_append, List.flatten_append]
  simp
theorem cut_fl {l : List Nat} (nd : l.Nodup) (h1 : 1 ≤ l.length) : ∀ n, (flF8 l n).foldl stepC ([], 0) = (rwF l n, 0)
  | 0 => rfl
  | n + 1 => by rw [fl_succ, List.foldl_append, cut_fl nd h1 n, read_new nd h1 n]
theorem cut_all {l : List Nat} (nd : l.Nodup) (h1 : 1 ≤ l.length) {n j : Nat} (h : j ≤ n) : cutC (flF8 l n ++ wdF l j) = (rwF l n, j) := by
  unfold cutC
  rw [List.foldl_append, cut_fl nd h1, read_old nd h1 j h]
def wsF (l : List Nat) (n : Nat) : List (List Nat) := (List.range n).map (wdF l)
theorem ws_get {l : List Nat} {n i : Nat} (h : i < n) : (wsF l n)[i]? = some (wdF l i) := by
  unfold wsF
  rw [List.getElem?_map, List.getElem?_range h]
  rfl
theorem ws_len (l : List Nat) (n : Nat) : (wsF l n).length = n := by unfold wsF; rw [List.length_map, List.length_range]
theorem ws_succ (l : List Nat) (n : Nat) : wsF l (n + 1) = wsF l n ++ [wdF l n] := by
  unfold wsF
  rw [List.range_succ, List.map_append]
  rfl
theorem pi_rw (l : List Nat) : ∀ n, piF (rwF l n) = wsF l (n + 1)
  | 0 => by
    show [[]] = _
    unfold wsF
    rw [List.range_succ, List.map_append]
    show _ = [wdF l 0]
    rw [wd_zero]
  | n + 1 => by
    rw [rw_succ, piF_snoc, pi_rw l n, ws_succ l (n + 1)]
    show wsF l (n + 1) ++ [(wsF l (n + 1)).getD (n / l.length) [] ++ [l.getD (n % l.length) 0]] = _
    have : (wsF l (n + 1)).getD (n / l.length) [] = wdF l (n / l.length) := by
      rw [List.getD_eq_getElem?_getD, ws_get (Nat.lt_succ_of_le (Nat.div_le_self _ _))]
      rfl
    rw [this, ← wd_succ]
theorem pre_snoc {p t : List Nat} {c : Nat} (h : p <+: t ++ [c]) : p = t ++ [c] ∨ p <+: t := by
  obtain ⟨u, hu⟩ := h
  by_cases z : u = []
  · subst z; exact .inl (by rw [← hu, List.append_nil])
  · right
    obtain ⟨v, x, rfl⟩ : ∃ v x, u = v ++ [x] := ⟨u.dropLast, u.getLast z, (List.dropLast_concat_getLast z).symm⟩
    rw [← List.append_assoc] at hu
    exact ⟨v, (List.append_inj' hu rfl).1⟩
theorem wd_pre {l : List Nat} : ∀ m (p : List Nat), p <+: wdF l m → p = wdF l m ∨ ∃ j, j < m ∧ p = wdF l j := by
  intro m
  induction m using Nat.strongRecOn with
  | _ m ih =>
    intro p hp
    cases m with
    | zero =>
      rw [wd_zero] at hp ⊢
      exact .inl (List.prefix_nil.mp hp)
    | succ m =>
      have hd := Nat.div_le_self m l.length
      rw [wd_succ] at hp ⊢
      rcases pre_snoc hp with e | hp
      · exact .inl e
      · rcases ih _ (Nat.lt_succ_of_le hd) p hp with e | ⟨j, hj, e⟩
        · exact .inr ⟨_, Nat.lt_succ_of_le hd, e⟩
        · exact .inr ⟨j, by omega, e⟩
/-! ### lengths -/
def tlF (l : List Nat) (n : Nat) : Nat := (flF8 l n).length
theorem tl_succ (l : List Nat) (n : Nat) : tlF l (n + 1) = tlF l n + (wdF l (n + 1)).length := by
  unfold tlF
  rw [fl_succ, List.length_append]
theorem Sn_step (s : Nat) : ∀ w, Sn s (w + 1) = s * (1 + Sn s w)
  | 0 => by simp [Sn]
  | w + 1 => by
    show Sn s (w + 1) + s ^ (w + 2) = s * (1 + (Sn s w + s ^ (w + 1)))
    rw [Sn_step s w, Nat.mul_add, Nat.mul_add, Nat.mul_add, show s ^ (w + 2) = s * s ^ (w + 1) by rw [Nat.pow_succ s (w + 1), Nat.mul_comm]]
    omega
theorem wd_len {l : List Nat} (h1 : 1 ≤ l.length) : ∀ w i, i < l.length ^ (w + 1) → (wdF l (Sn l.length w + i + 1)).length = w + 1
  | 0, i, h => by
    have hi : i < l.length := by simpa using h
    have : Sn l.length 0 + i = i := by simp [Sn]
    rw [this, wd_succ, Nat.div_eq_of_lt hi, wd_zero]
    rfl
  | w + 1, i, h => by
    have e : (Sn l.length (w + 1) + i) / l.length = Sn l.length w + i / l.length + 1 := by
      rw [Sn_step, Nat.mul_add_div (by omega)]
      omega
    have hi : i / l.length < l.length ^ (w + 1) := by
      rw [Nat.div_lt_iff_lt_mul (by omega), ← Nat.pow_succ]
      exact h
    rw [wd_succ, e, List.length_append, wd_len h1 w _ hi]
    rfl
theorem tl_lev {l : List Nat} (h1 : 1 ≤ l.length) {w : Nat} (h : tlF l (Sn l.length w) = Bn l.length w) : ∀ j, j ≤ l.length ^ (w + 1) → tlF l (Sn l.length w + j) = Bn l.length w + (w + 1) * j
  | 0, _ => by rw [Nat.mul_zero]; exact h
  | j + 1, hj => by
    rw [← Nat.add_assoc, tl_succ, tl_lev h1 h j (by omega), wd_len h1 w j (by omega), Nat.mul_succ]
    omega
theorem tl_full {l : List Nat} (h1 : 1 ≤ l.length) : ∀ w, tlF l (Sn l.length w) = Bn l.length w
  | 0 => rfl
  | w + 1 => tl_lev h1 (tl_full h1 w) _ (Nat.le_refl _)
theorem tl_tot {l : List Nat} (h1 : 1 ≤ l.length) (c : Nat) : totF l.length c = tlF l c := by
  obtain ⟨w, j, hc, hj, ht⟩ := totF_spec (c := c) h1
  rw [ht, hc, tl_lev h1 (tl_full h1 w) j hj]
theorem tl_gr {l : List Nat} (h1 : 1 ≤ l.length) (far : Nat) : tlF l (grF l.length far) ≤ far ∧ far < tlF l (grF l.length far + 1) := by
  have := grF_spec (L := far) h1
  unfold Gr at this
  rwa [tl_tot h1, tl_tot h1] at this
theorem wd_pos {l : List Nat} (n : Nat) : 1 ≤ (wdF l (n + 1)).length := by
  rw [wd_succ, List.length_append]
  show 1 ≤ _ + 1
  omega
theorem tl_mono (l : List Nat) : ∀ {a b : Nat}, a ≤ b → tlF l a ≤ tlF l b := by
  intro a b h
  induction b with
  | zero => rw [Nat.le_zero.mp h]; exact Nat.le_refl _
  | succ b ih =>
    by_cases e : a = b + 1
    · subst e; exact Nat.le_refl _
    · rw [tl_succ]
      exact Nat.le_trans (ih (by omega)) (Nat.le_add_right _ _)
theorem tl_ge (l : List Nat) : ∀ n, n ≤ tlF l n
  | 0 => Nat.zero_le _
  | n + 1 => by
    rw [tl_succ]
    have := tl_ge l n
    have := wd_pos (l := l) n
    omega
theorem fl_pre (l : List Nat) : ∀ {a b : Nat}, a ≤ b → flF8 l a <+: flF8 l b := by
  intro a b h
  induction b with
  | zero => rw [Nat.le_zero.mp h]; exact List.prefix_refl _
  | succ b ih =>
    by_cases e : a = b + 1
    · subst e; exact List.prefix_refl _
    · rw [fl_succ]
      exact List.IsPrefix.trans (ih (by omega)) (List.prefix_append _ _)
theorem take_pre {a b : List Nat} {n : Nat} (h : a <+: b) (hn : n ≤ a.length) : b.take n = a.take n := by
  obtain ⟨t, rfl⟩ := h
  exact List.take_append_of_le_length hn
/-- the first far letters of all words in order -/
noncomputable def fuF (l : List Nat) (far : Nat) : List Nat := (flF8 l (grF l.length far + 1)).take far
theorem fu_of {l : List Nat} (h1 : 1 ≤ l.length) {far n : Nat} (h : far ≤ tlF l n) : (flF8 l n).take far = fuF l far := by
  have hg := tl_gr h1 far
  unfold fuF
  rcases Nat.le_total n (grF l.length far + 1) with c | c
  · exact (take_pre (fl_pre l c) h).symm
  · exact take_pre (fl_pre l c) (by unfold tlF at hg; omega)
theorem fu_len {l : List Nat} (h1 : 1 ≤ l.length) (far : Nat) : (fuF l far).length = far := by
  have hg := tl_gr h1 far
  unfold fuF
  unfold tlF at hg
  rw [List.length_take]
  omega
theorem fu_take {l : List Nat} (h1 : 1 ≤ l.length) {far near : Nat} (h : near ≤ far) : (fuF l far).take near = fuF l near := by
  have hg := tl_gr h1 far
  have : (fuF l far).take near = (flF8 l (grF l.length far + 1)).take near := by
    unfold fuF
    rw [List.take_take, Nat.min_eq_left h]
  rw [this]
  exact fu_of h1 (by omega)
theorem fu_sub {l : List Nat} (h1 : 1 ≤ l.length) (far : Nat) : ∀ c ∈ fuF l far, c ∈ l := fun c hc => by
  obtain ⟨w, hw, hc⟩ := List.mem_flatten.mp (List.mem_of_mem_take hc)
  obtain ⟨i, _, rfl⟩ := List.mem_map.mp hw
  exact wd_sub h1 _ c hc
/-- the whole words, and what is left -/
theorem fu_split {l : List Nat} (h1 : 1 ≤ l.length) (far : Nat) : ∃ j, j ≤ grF l.length far ∧ fuF l far = flF8 l (grF l.length far) ++ wdF l j ∧ wdF l j = (wdF l (grF l.length far + 1)).take (far - tlF l (grF l.length far)) := by
  obtain ⟨g1, g2⟩ := tl_gr h1 far
  have hlt : far - tlF l (grF l.length far) < (wdF l (grF l.length far + 1)).length := by
    rw [tl_succ] at g2
    omega
  have e : fuF l far = flF8 l (grF l.length far) ++ (wdF l (grF l.length far + 1)).take (far - tlF l (grF l.length far)) := by
    unfold fuF
    rw [fl_succ, List.take_append]
    unfold tlF at g1 ⊢
    rw [List.take_of_length_le g1]
  rcases wd_pre _ _ (List.take_prefix (far - tlF l (grF l.length far)) (wdF l (grF l.length far + 1))) with z | ⟨j, hj, z⟩
  · exfalso
    have := congrArg List.length z
    rw [List.length_take] at this
    omega
  · exact ⟨j, by omega, by rw [e, z], z.symm⟩
theorem fu_cut {l : List Nat} (nd : l.Nodup) (h1 : 1 ≤ l.length) {far j : Nat} (hj : j ≤ grF l.length far) (e : fuF l far = flF8 l (grF l.length far) ++ wdF l j) : cutC (fuF l far) = (rwF l (grF l.length far), j) := by
  rw [e]
  exact cut_all nd h1 hj
theorem wd_inj {l : List Nat} (nd : l.Nodup) (h1 : 1 ≤ l.length) {i j : Nat} (e : wdF l i = wdF l j) : i = j := by
  have a := read_old nd h1 (n := i + j) i (by omega)
  have b := read_old nd h1 (n := i + j) j (by omega)
  rw [e, b] at a
  exact (congrArg (·.2) a).symm
/-! ### levels -/
theorem range_mul {α : Type} (f : Nat → α) (s : Nat) : ∀ a, (List.range (a * s)).map f = (List.range a).flatMap fun i => (List.range s).map fun k => f (i * s + k)
  | 0 => by simp
  | a + 1 => by
    rw [Nat.add_mul, Nat.one_mul, List.range_add, List.map_append, range_mul f s a, List.range_succ, List.flatMap_append]
    simp [List.map_map, Function.comp_def]
def ofF (s : Nat) : Nat → Nat
  | 0 => 0
  | d + 1 => Sn s d + 1
theorem of_step (s d : Nat) : ofF s (d + 1) = ofF s d * s + 1 := by
  cases d with
  | zero => simp [ofF, Sn]
  | succ d =>
    show Sn s (d + 1) + 1 = (Sn s d + 1) * s + 1
    rw [Sn_step, Nat.mul_comm s, Nat.add_comm 1]
def lvF (l : List Nat) (d : Nat) : List (List Nat) := (List.range (l.length ^ d)).map fun i => wdF l (ofF l.length d + i)
theorem map_range_getD (l : List Nat) {α : Type} (f : Nat → α) : (List.range l.length).map (fun k => f (l.getD k 0)) = l.map f := by
  apply List.ext_getElem?
  intro i
  rw [List.getElem?_map, List.getElem?_map]
  by_cases h : i < l.length
  · rw [List.getElem?_range h, List.getElem?_eq_getElem h]
    show some (f (l.getD i 0)) = some (f l[i])
    rw [List.getD_eq_getElem?_getD, List.getElem?_eq_getElem h]
    rfl
  · rw [List.getElem?_eq_none (by simp; omega), List.getElem?_eq_none (by omega)]
    rfl
theorem lv_step (l : List Nat) (d : Nat) : lvF l (d + 1) = (lvF l d).flatMap fun t => l.map fun c => t ++ [c] := by
  unfold lvF
  rw [Nat.pow_succ, range_mul, List.flatMap_map]
  refine congrArg (fun g => List.flatMap g (List.range (l.length ^ d))) (funext fun i => ?_)
  rw [← map_range_getD l fun c => wdF l (ofF l.length d + i) ++ [c]]
  refine List.map_congr_left fun k hk => ?_
  have hk := List.mem_range.mp hk
  rw [← wd_at hk, of_step]
  congr 1
  rw [Nat.add_mul]
  omega
def tsF (l : List Nat) (n : Nat) : List (List Nat) := (List.range n).map fun i => wdF l (i + 1)
theorem ts_len (l : List Nat) (n : Nat) : (tsF l n).length = n := by unfold tsF; rw [List.length_map, List.length_range]
theorem ts_step (l : List Nat) (d : Nat) : tsF l (Sn l.length (d + 1)) = tsF l (Sn l.length d) ++ lvF l (d + 1) := by
  show (List.range (Sn l.length d + l.length ^ (d + 1))).map _ = _
  rw [List.range_add, List.map_append, List.map_map]
  refine congrArg ((tsF l (Sn l.length d)) ++ ·) ?_
  unfold lvF
  refine List.map_congr_left fun i _ => ?_
  show wdF l (Sn l.length d + i + 1) = wdF l (Sn l.length d + 1 + i)
  congr 1
  omega
theorem ts_take {l : List Nat} {n m : Nat} (h : m ≤ n) : (tsF l n).take m = tsF l m := by
  unfold tsF
  rw [← List.map_take, List.take_range, Nat.min_eq_left h]
theorem ts_fl (l : List Nat) (n : Nat) : (tsF l n).flatten = flF8 l n := rfl
theorem ws_ts (l : List Nat) (n : Nat) : (wsF l (n + 1)).drop 1 = tsF l n := by
  unfold wsF tsF
  rw [List.range_succ_eq_map, List.map_cons, List.map_map]
  rfl
theorem ws_grow (l : List Nat) (a : Nat) : wsF l (a * l.length + 1 + l.length) = wsF l (a * l.length + 1) ++ l.map fun c => wdF l a ++ [c] := by
  unfold wsF
  rw [List.range_add, List.map_append, List.map_map, ← map_range_getD l fun c => wdF l a ++ [c]]
  refine congrArg ((List.range (a * l.length + 1)).map (wdF l) ++ ·) (List.map_congr_left fun k hk => ?_)
  have hk := List.mem_range.mp hk
  show wdF l (a * l.length + 1 + k) = _
  rw [← wd_at hk]
  congr 1
  omega
end My

set_option Elab.async false
set_option linter.all false
set_option maxRecDepth 100000
set_option maxHeartbeats 4000000
namespace My
open PySem
/-! ### bits -/
def bitsL : Nat → Nat → List Nat
  | 0, _ => []
  | w + 1, n => bitsL w (n / 2) ++ [48 + n % 2]
theorem bitsL_len : ∀ (w n : Nat), (bitsL w n).length = w
  | 0, _ => rfl
  | w + 1, n => by simp [bitsL, bitsL_len w]
def dig (n : Nat) : List Nat := (Nat.toDigits 2 n).map Char.toNat
theorem dig_lt {n : Nat} (h : n < 2) : dig n = [48 + n] := by
  have h2 : n = 0 ∨ n = 1 := by omega
  rcases h2 with rfl | rfl <;> decide
theorem dig_ge {n : Nat} (h : 2 ≤ n) : dig n = dig (n / 2) ++ [48 + n % 2] := by
  unfold dig
  rw [Nat.toDigits_of_base_le (by decide) h, List.map_append]
  have h2 : n % 2 = 0 ∨ n % 2 = 1 := by omega
  rcases h2 with h2 | h2 <;> rw [h2] <;> rfl
theorem dig_mem : ∀ (k n : Nat), n ≤ k → ∀ c ∈ dig n, c = 48 ∨ c = 49
  | k, n, hk, c, hc => by
    by_cases h : n < 2
    · rw [dig_lt h] at hc
      simp at hc
      omega
    · rw [dig_ge (by omega)] at hc
      rcases List.mem_append.mp hc with hc | hc
      · match k with
        | 0 => omega
        | k + 1 => exact dig_mem k (n / 2) (by omega) c hc
      · simp at hc
        omega
theorem dig_pos (n : Nat) : 1 ≤ (dig n).length := by
  unfold dig
  rw [List.length_map]
  exact Nat.length_toDigits_pos
theorem dig_len : ∀ (w n : Nat), 1 ≤ w → n < 2 ^ w → (dig n).length ≤ w
  | 0, _, h, _ => by omega
  | w + 1, n, _, hn => by
    by_cases h : n < 2
    · rw [dig_lt h]; simp
    · rw [dig_ge (by omega), List.length_append]
      by_cases hw : w = 0
      · subst hw
        have : (2 : Nat) ^ (0 + 1) = 2 := by decide
        omega
      · have := dig_len w (n / 2) (by omega) (by rw [Nat.pow_succ] at hn; omega)
        simp only [List.length_cons, List.length_nil]
        omega
theorem pad_bits : ∀ (w n : Nat), 1 ≤ w → n < 2 ^ w → List.replicate (w - (dig n).length) 48 ++ dig n = bitsL w n
  | 0, _, h, _ => by omega
  | w + 1, n, _, hn => by
    by_cases h : n < 2
    · rw [dig_lt h]
      have e1 : n / 2 = 0 := by omega
      have e2 : n % 2 = n := by omega
      unfold bitsL
      rw [e1, e2]
      by_cases hw : w = 0
      · subst hw
        rfl
      · rw [← pad_bits w 0 (by omega) (Nat.two_pow_pos w), dig_lt (by omega : 0 < 2)]
        obtain ⟨v, rfl⟩ : ∃ v, w = v + 1 := ⟨w - 1, by omega⟩
        show List.replicate (v + 1 + 1 - 1) 48 ++ [48 + n] = List.replicate (v + 1 - 1) 48 ++ [48 + 0] ++ [48 + n]
        congr 1
        show List.replicate (v + 1) 48 = List.replicate v 48 ++ [48]
        exact List.replicate_succ'
    · rw [dig_ge (by omega)]
      have hw : 1 ≤ w := by
        by_cases hw : w = 0
        · subst hw
          have : (2 : Nat) ^ (0 + 1) = 2 := by decide
          omega
        · omega
      unfold bitsL
      rw [← pad_bits w (n / 2) hw (by rw [Nat.pow_succ] at hn; omega), ← List.append_assoc]
      congr 2
      rw [List.length_append]
      show List.replicate (w + 1 - ((dig (n / 2)).length + 1)) 48 = _
      congr 1
      omega
/-- a number in so many bits -/
def bitS (w : Nat) (n : Nat) : Str := ⟨(bitsL w n).toArray⟩
theorem zfill_bits {w n : Nat} (hw : 1 ≤ w) (hn : n < 2 ^ w) : Txt.zfill (binT n) (w : Int) = bitS w n := by
  have e : binT n = ⟨(dig n).toArray⟩ := rfl
  have hl : (binT n).length = (dig n).length := by rw [e]; simp [Str.length]
  have hd := dig_len w n hw hn
  have hp := pad_bits w n hw hn
  unfold Txt.zfill
  rw [hl]
  by_cases h : (w : Int) ≤ ((dig n).length : Int)
  · rw [if_pos h, e]
    have h2 : w - (dig n).length = 0 := by omega
    rw [h2] at hp
    unfold bitS
    rw [← hp]
    rfl
  · rw [if_neg h]
    have h3 : ((w : Int).toNat - (dig n).length) = w - (dig n).length := by simp
    rw [h3]
    have hm := dig_mem n n (Nat.le_refl _)
    have h1 := dig_pos n
    unfold bitS
    rw [← hp, e]
    generalize dig n = d at hm h1 ⊢
    match d, h1 with
    | c :: cs, _ =>
      unfold zfilled
      have hc := hm c List.mem_cons_self
      have e0 : (⟨(c :: cs).toArray⟩ : Str).cps[0]? = some c := rfl
      rw [e0]
      rcases hc with rfl | rfl
      · show Builtin.Str.padded _ _ 0 48 = _
        simp [Builtin.Str.padded]
      · show Builtin.Str.padded _ _ 0 48 = _
        simp [Builtin.Str.padded]
/-! ### order -/
theorem lex_app {α : Type} {r : α → α → Prop} : ∀ {a b c d : List α}, List.Lex r a b → a.length = b.length → List.Lex r (a ++ c) (b ++ d)
  | _, _, _, _, .nil, h => by simp at h
  | _, _, _, _, .rel h, _ => .rel h
  | _, _, _, _, .cons h, e => .cons (lex_app h (by simpa using e))
theorem lex_last {α : Type} {r : α → α → Prop} {x y : α} (h : r x y) : ∀ a : List α, List.Lex r (a ++ [x]) (a ++ [y])
  | [] => .rel h
  | _ :: a => .cons (lex_last h a)
theorem bits_lt : ∀ (w n m : Nat), n < m → m < 2 ^ w → bitsL w n < bitsL w m
  | 0, n, m, h, hm => by simp at hm; omega
  | w + 1, n, m, h, hm => by
    unfold bitsL
    by_cases e : n / 2 = m / 2
    · rw [e]
      exact lex_last (by omega) _
    · exact lex_app (bits_lt w (n / 2) (m / 2) (by omega) (by rw [Nat.pow_succ] at hm; omega)) (by rw [bitsL_len, bitsL_len])
/-! ### reading -/
def valL (l : List Nat) : Int := l.foldl (fun v c => v * 2 + if c = 49 then 1 else 0) 0
theorem valL_snoc (l : List Nat) (c : Nat) : valL (l ++ [c]) = valL l * 2 + if c = 49 then 1 else 0 := by
  unfold valL
  rw [List.foldl_append]
  rfl
theorem valL_bits : ∀ (w n : Nat), n < 2 ^ w → valL (bitsL w n) = n
  | 0, n, h => by
    have : n = 0 := by simpa using h
    subst this
    rfl
  | w + 1, n, h => by
    unfold bitsL
    rw [valL_snoc, valL_bits w (n / 2) (by rw [Nat.pow_succ] at h; omega)]
    split <;> omega
theorem bits_mem : ∀ (w n : Nat), ∀ c ∈ bitsL w n, c = 48 ∨ c = 49
  | 0, _, c, h => by simp [bitsL] at h
  | w + 1, n, c, h => by
    unfold bitsL at h
    rcases List.mem_append.mp h with h | h
    · exact bits_mem w _ c h
    · simp at h; omega
/-! ### widths -/
def wd (m : Int) : Nat := Builtin.Int.intBits (m - 1)
theorem wd_spec {m : Int} (h : 1 ≤ m) : m ≤ 2 ^ wd m ∧ ∀ j, j < wd m → (2 : Int) ^ j < m := by
  unfold wd Builtin.Int.intBits
  obtain ⟨n, hn⟩ : ∃ n : Nat, m = (n : Int) + 1 := ⟨(m - 1).toNat, by omega⟩
  subst hn
  have e : (n : Int) + 1 - 1 = n := by omega
  rw [e]
  by_cases hz : n = 0
  · subst hz
    refine ⟨?_, fun j hj => ?_⟩
    · show (0 : Int) + 1 ≤ 2 ^ 0
      decide
    · exact absurd hj (Nat.not_lt_zero _)
  · have hb : ((n : Int) == 0) = false := by simpa using hz
    rw [hb]
    simp only [Bool.false_eq_true, if_false, Int.natAbs_natCast]
    have h1 := Nat.lt_log2_self (n := n)
    have h2 := Nat.log2_self_le hz
    refine ⟨?_, fun j hj => ?_⟩
    · have : ((n + 1 : Nat) : Int) ≤ ((2 ^ (n.log2 + 1) : Nat) : Int) := Int.ofNat_le.mpr h1
      rw [Int.natCast_pow] at this
      simpa using this
    · have h3 : 2 ^ j ≤ 2 ^ n.log2 := Nat.pow_le_pow_right (by decide) (by omega)
      have : ((2 ^ j : Nat) : Int) < ((n + 1 : Nat) : Int) := Int.ofNat_lt.mpr (by omega)
      rw [Int.natCast_pow] at this
      simpa using this
theorem wd_uniq {m : Int} (h : 1 ≤ m) {i : Nat} (h1 : m ≤ 2 ^ i) (h2 : ∀ j, j < i → (2 : Int) ^ j < m) : i = wd m := by
  obtain ⟨a, b⟩ := wd_spec h
  by_cases c : i < wd m
  · have := b i c
    omega
  · by_cases d : wd m < i
    · have := h2 _ d
      omega
    · omega
theorem p2 (i : Nat) : ((2 : Int) ^ i) = ((2 ^ i : Nat) : Int) := by rw [Int.natCast_pow]; rfl
theorem wd_le {m : Int} (h : 1 ≤ m) {b : Nat} (hb : m ≤ 2 ^ b) : wd m ≤ b := by
  by_cases c : b < wd m
  · have := (wd_spec h).2 b c
    omega
  · omega
theorem nat_lt_wd {n m : Int} (h0 : 0 ≤ n) (h : n < m) : n.natAbs < 2 ^ wd m := by
  have a := (wd_spec (m := m) (by omega)).1
  rw [p2] at a
  omega
theorem wd_one {m : Int} (h : 1 ≤ m) (h1 : m ≠ 1) : 1 ≤ wd m := by
  by_cases c : wd m = 0
  · have a := (wd_spec h).1
    rw [c] at a
    have : (2 : Int) ^ 0 = 1 := by decide
    omega
  · omega
theorem wd_1 : wd 1 = 0 := rfl
end My

set_option linter.all false
namespace My
/-- how many strings there is room for: empty ones, then those of 1, 2, .. bits -/
def Rm (e s : Nat) : Nat → Nat
  | 0 => e
  | k + 1 => s * 2 ^ (k + 1)
def Cm (e s : Nat) : Nat → Nat
  | 0 => 0
  | k + 1 => Cm e s k + Rm e s k
def Tm (e s n : Nat) : Nat → Nat
  | 0 => 0
  | k + 1 => Tm e s n k + (n - Cm e s (k + 1))
def totE (e s n : Nat) : Nat := Tm e s n (n + 1)
theorem Cm_mono (e s : Nat) {i j : Nat} (h : i ≤ j) : Cm e s i ≤ Cm e s j := by
  induction h with
  | refl => exact Nat.le_refl _
  | step _ ih => exact Nat.le_trans ih (Nat.le_add_right _ _)
theorem Cm_big {e s : Nat} (hs : 1 ≤ s) : ∀ k, 2 ^ k ≤ Cm e s k + 2
  | 0 => by show 1 ≤ 2; decide
  | 1 => by show 2 ≤ 0 + e + 2; omega
  | k + 2 => by
    have ih := Cm_big (e := e) hs (k + 1)
    have h1 : 2 ^ (k + 1) ≤ s * 2 ^ (k + 1) := Nat.le_mul_of_pos_left _ hs
    have h2 : Cm e s (k + 2) = Cm e s (k + 1) + s * 2 ^ (k + 1) := rfl
    have h3 : 2 ^ (k + 2) = 2 ^ (k + 1) + 2 ^ (k + 1) := by rw [Nat.pow_succ]; omega
    omega
theorem two_pow_gt : ∀ n : Nat, n + 2 ≤ 2 ^ (n + 1)
  | 0 => by decide
  | n + 1 => by
    have ih := two_pow_gt n
    have h3 : 2 ^ (n + 2) = 2 ^ (n + 1) + 2 ^ (n + 1) := by rw [Nat.pow_succ]; omega
    show n + 1 + 2 ≤ 2 ^ (n + 2)
    omega
theorem Tm_stay {e s n k : Nat} (h : n ≤ Cm e s k) : ∀ j, Tm e s n (k + j) = Tm e s n k
  | 0 => rfl
  | j + 1 => by
    show Tm e s n (k + j) + (n - Cm e s (k + j + 1)) = _
    have := Cm_mono e s (show k ≤ k + j + 1 by omega)
    rw [Tm_stay h j, Nat.sub_eq_zero_of_le (Nat.le_trans h this), Nat.add_zero]
theorem tot_is {e s n k : Nat} (hs : 1 ≤ s) (h : n ≤ Cm e s k) : Tm e s n k = totE e s n := by
  have h2 : n ≤ Cm e s (n + 1) := by
    have := Cm_big (e := e) hs (n + 1)
    have := two_pow_gt n
    omega
  unfold totE
  by_cases hk : k ≤ n + 1
  · rw [show n + 1 = k + (n + 1 - k) by omega, Tm_stay h]
  · rw [show k = n + 1 + (k - (n + 1)) by omega, Tm_stay h2]
/-- one turn of a loop that uses the lengths up -/
theorem tot_turn {e s n k t : Nat} (h : t + k * (n - Cm e s k) = Tm e s n k) : t + k * min (n - Cm e s k) (Rm e s k) + (k + 1) * (n - Cm e s (k + 1)) = Tm e s n (k + 1) := by
  have h1 : n - Cm e s (k + 1) = n - Cm e s k - Rm e s k := by show n - (Cm e s k + Rm e s k) = _; omega
  show _ = Tm e s n k + (n - Cm e s (k + 1))
  rw [h1, ← h]
  generalize n - Cm e s k = r
  generalize Rm e s k = R
  have h2 : min r R = r - (r - R) := by omega
  have h3 : r - R ≤ r := by omega
  rw [h2, Nat.mul_sub, Nat.add_mul, Nat.one_mul]
  have h4 : k * (r - R) ≤ k * r := Nat.mul_le_mul_left _ h3
  omega
theorem Rm_same (s k : Nat) : Rm s s k = s * 2 ^ k := by cases k with
  | zero => show s = s * 1; rw [Nat.mul_one]
  | succ k => rfl
/-! ### lists of rooms and uses -/
def Gs : Nat → List Nat → Nat
  | _, [] => 0
  | m, r :: rs => (m - r) + Gs (m - r) rs
def SS : List Nat → Nat
  | [] => 0
  | _ :: us => us.sum + SS us
def lenS : Nat → List Nat → Nat
  | _, [] => 0
  | k, u :: us => k * u + lenS (k + 1) us
def Bd : List Nat → List Nat → Prop
  | [], [] => True
  | r :: rs, u :: us => u ≤ r ∧ Bd rs us
  | _, _ => False
def tightF : Bool → List Nat → List Nat → Bool
  | g, r :: rs, u :: us => if g = true ∧ 0 < u then false else tightF (g || decide (u < r)) rs us
  | _, _, _ => true
theorem lenS_SS : ∀ (k : Nat) (us : List Nat), lenS k us = k * us.sum + SS us
  | k, [] => by simp [lenS, SS]
  | k, u :: us => by
    show k * u + lenS (k + 1) us = k * (u :: us).sum + (us.sum + SS us)
    rw [lenS_SS (k + 1) us, List.sum_cons, Nat.add_mul, Nat.mul_add]
    omega
theorem Gs_le : ∀ {rs us : List Nat} {m : Nat}, Bd rs us → m ≤ us.sum → Gs m rs ≤ SS us
  | [], [], _, _, _ => Nat.le_refl _
  | r :: rs, u :: us, m, h, hm => by
    rw [List.sum_cons] at hm
    obtain ⟨hu, hb⟩ := h
    have h1 : m - r ≤ us.sum := by omega
    have := Gs_le hb h1
    show (m - r) + Gs (m - r) rs ≤ us.sum + SS us
    omega
  | [], _ :: _, _, h, _ => h.elim
  | _ :: _, [], _, h, _ => h.elim
theorem SS_zero : ∀ {us : List Nat}, us.sum = 0 → SS us = 0
  | [], _ => rfl
  | u :: us, h => by
    rw [List.sum_cons] at h
    have h1 : us.sum = 0 := by omega
    show us.sum + SS us = 0
    rw [h1, SS_zero h1]
theorem Gs_zero : ∀ rs : List Nat, Gs 0 rs = 0
  | [] => rfl
  | r :: rs => by show (0 - r) + Gs (0 - r) rs = 0; rw [Nat.zero_sub, Gs_zero rs]
theorem tight_true : ∀ {rs us : List Nat}, Bd rs us → (tightF true rs us = true ↔ us.sum = 0)
  | [], [], _ => by simp [tightF]
  | r :: rs, u :: us, h => by
    have ih := tight_true h.2
    unfold tightF
    by_cases hu : 0 < u
    · rw [if_pos ⟨rfl, hu⟩, List.sum_cons]
      simp
      omega
    · rw [if_neg (by simp [hu]), Bool.true_or, ih, List.sum_cons]
      omega
  | [], _ :: _, h => h.elim
  | _ :: _, [], h => h.elim
theorem Gs_eq : ∀ {rs us : List Nat}, Bd rs us → (Gs us.sum rs = SS us ↔ tightF false rs us = true)
  | [], [], _ => by simp [tightF, Gs, SS]
  | r :: rs, u :: us, h => by
    obtain ⟨hu, hb⟩ := h
    show ((u :: us).sum - r) + Gs ((u :: us).sum - r) rs = us.sum + SS us ↔ _
    rw [List.sum_cons]
    unfold tightF
    rw [if_neg (by simp), Bool.false_or]
    by_cases hlt : u < r
    · rw [decide_eq_true hlt, tight_true hb]
      constructor
      · intro he
        by_cases hz : us.sum = 0
        · exact hz
        · have := Gs_le hb (show u + us.sum - r ≤ us.sum by omega)
          omega
      · intro hz
        have e1 : u + us.sum - r = 0 := by omega
        rw [e1, Gs_zero, SS_zero hz]
        omega
    · have e1 : u + us.sum - r = us.sum := by omega
      rw [decide_eq_false hlt, e1, ← Gs_eq hb]
      omega
  | [], _ :: _, h => h.elim
  | _ :: _, [], h => h.elim
def roomL (e s m : Nat) : List Nat := (List.range m).map (Rm e s)
theorem roomL_succ (e s m : Nat) : roomL e s (m + 1) = roomL e s m ++ [Rm e s m] := by
  unfold roomL
  rw [List.range_succ, List.map_append]
  rfl
theorem roomL_len (e s m : Nat) : (roomL e s m).length = m := by simp [roomL]
theorem roomL_sum (e s : Nat) : ∀ m, (roomL e s m).sum = Cm e s m
  | 0 => rfl
  | m + 1 => by rw [roomL_succ, List.sum_append, roomL_sum e s m]; simp [Cm]
theorem Gs_app : ∀ (rs : List Nat) (n r : Nat), Gs n (rs ++ [r]) = Gs n rs + (n - (rs.sum + r))
  | [], n, r => by simp [Gs]
  | a :: rs, n, r => by
    show (n - a) + Gs (n - a) (rs ++ [r]) = (n - a) + Gs (n - a) rs + _
    rw [Gs_app rs, List.sum_cons]
    have : n - a - (rs.sum + r) = n - (a + rs.sum + r) := by omega
    omega
theorem Gs_room (e s n : Nat) : ∀ m, Gs n (roomL e s m) = Tm e s n m
  | 0 => rfl
  | m + 1 => by rw [roomL_succ, Gs_app, Gs_room e s n m, roomL_sum]; rfl
theorem Bd_sum : ∀ {rs us : List Nat}, Bd rs us → us.sum ≤ rs.sum
  | [], [], _ => Nat.le_refl _
  | r :: rs, u :: us, h => by
    have := Bd_sum h.2
    have := h.1
    rw [List.sum_cons, List.sum_cons]
    omega
  | [], _ :: _, h => h.elim
  | _ :: _, [], h => h.elim
/-- no choice has fewer bits, and as many exactly if it is tight -/
theorem choice_le {e s m : Nat} {us : List Nat} (hs : 1 ≤ s) (h : Bd (roomL e s m) us) : totE e s us.sum ≤ lenS 0 us ∧ (totE e s us.sum = lenS 0 us ↔ tightF false (roomL e s m) us = true) := by
  have h1 : us.sum ≤ Cm e s m := by rw [← roomL_sum]; exact Bd_sum h
  rw [← tot_is hs h1, ← Gs_room, lenS_SS, Nat.zero_mul, Nat.zero_add]
  exact ⟨Gs_le h (Nat.le_refl _), Gs_eq h⟩
theorem Bd.len : ∀ {rs us : List Nat}, Bd rs us → us.length = rs.length
  | [], [], _ => rfl
  | _ :: _, _ :: _, h => congrArg Nat.succ h.2.len
  | [], _ :: _, h => h.elim
  | _ :: _, [], h => h.elim
theorem Bd_of : ∀ {rs us : List Nat}, us.length = rs.length → (∀ i, i < rs.length → us.getD i 0 ≤ rs.getD i 0) → Bd rs us
  | [], [], _, _ => trivial
  | r :: rs, u :: us, hl, h => ⟨h 0 (by simp), Bd_of (by simpa using hl) fun i hi => by have := h (i + 1) (by simpa using hi); simpa using this⟩
  | [], _ :: _, hl, _ => by simp at hl
  | _ :: _, [], hl, _ => by simp at hl
theorem Bd.get : ∀ {rs us : List Nat}, Bd rs us → ∀ i, us.getD i 0 ≤ rs.getD i 0
  | [], [], _, _ => Nat.le_refl _
  | _ :: _, _ :: _, h, 0 => h.1
  | _ :: _, _ :: _, h, i + 1 => by simpa using h.2.get i
  | [], _ :: _, h, _ => h.elim
  | _ :: _, [], h, _ => h.elim
end My

set_option Elab.async false
set_option linter.all false
set_option maxRecDepth 100000
set_option maxHeartbeats 4000000
namespace My
/-- the width of n options -/
def cl (n : Nat) : Nat := wd (n : Int)
theorem cl_spec {n : Nat} (h : 1 ≤ n) : n ≤ 2 ^ cl n ∧ ∀ j, j < cl n → 2 ^ j < n := by
  obtain ⟨a, b⟩ := wd_spec (m := (n : Int)) (by omega)
  refine ⟨?_, fun j hj => ?_⟩
  · rw [p2] at a; exact Int.ofNat_le.mp a
  · have := b j hj
    rw [p2] at this
    exact Int.ofNat_lt.mp this
theorem cl_le {n b : Nat} (h1 : 1 ≤ n) (h : n ≤ 2 ^ b) : cl n ≤ b := by
  by_cases c : cl n ≤ b
  · exact c
  · have := (cl_spec h1).2 b (by omega)
    omega
theorem lt_cl {n b : Nat} (h1 : 1 ≤ n) (h : 2 ^ b < n) : b < cl n := by
  by_cases c : b < cl n
  · exact c
  · have a := (cl_spec h1).1
    have := Nat.pow_le_pow_right (n := 2) (by decide) (show cl n ≤ b by omega)
    omega
theorem cl_mono {n m : Nat} (h1 : 1 ≤ n) (h : n ≤ m) : cl n ≤ cl m := cl_le h1 (Nat.le_trans h (cl_spec (by omega)).1)
/-- the bits of row i -/
def rowW (s i : Nat) : Nat := cl ((i + 1) * (s - 1) + 2)
def rsum (s : Nat) : Nat → Nat
  | 0 => 0
  | n + 1 => rsum s n + rowW s n
def plF (s c : Nat) : Nat := cl (c + 1) + rsum s (c + 1)
/-! ### a sum over lengths, turn by turn -/
def colS (f : Nat → Nat) (n : Nat) : Nat → Nat
  | 0 => 0
  | k + 1 => colS f n k + (n - f k)
def cntS (f : Nat → Nat) (n : Nat) : Nat → Nat
  | 0 => 0
  | k + 1 => cntS f n k + if f k ≤ n then 1 else 0
theorem colS_succ (f : Nat → Nat) (n : Nat) : ∀ k, colS f (n + 1) k = colS f n k + cntS f n k
  | 0 => rfl
  | k + 1 => by
    show colS f (n + 1) k + (n + 1 - f k) = colS f n k + (n - f k) + (cntS f n k + if f k ≤ n then 1 else 0)
    rw [colS_succ f n k]
    split <;> omega
theorem colS_zero (f : Nat → Nat) : ∀ k, colS f 0 k = 0
  | 0 => rfl
  | k + 1 => by
    show colS f 0 k + (0 - f k) = 0
    rw [colS_zero f k, Nat.zero_sub]
theorem cntS_le (f : Nat → Nat) (n : Nat) : ∀ k, cntS f n k ≤ k
  | 0 => Nat.le_refl _
  | k + 1 => by
    have := cntS_le f n k
    show cntS f n k + (if f k ≤ n then 1 else 0) ≤ k + 1
    split <;> omega
theorem cntS_spec {f : Nat → Nat} (hf : ∀ i j, i ≤ j → f i ≤ f j) (n : Nat) : ∀ k b, b < k → (f b ≤ n ↔ b < cntS f n k)
  | 0, b, h => absurd h (Nat.not_lt_zero b)
  | k + 1, b, h => by
    have ih := cntS_spec hf n k
    have hl := cntS_le f n k
    show _ ↔ b < cntS f n k + if f k ≤ n then 1 else 0
    by_cases c : f k ≤ n
    · rw [if_pos c]
      have all : cntS f n k = k := by
        cases k with
        | zero => exact Nat.le_zero.mp hl
        | succ k =>
          have h1 := (ih k (by omega)).mp (Nat.le_trans (hf _ _ (by omega)) c)
          omega
      rw [all]
      exact ⟨fun _ => h, fun _ => Nat.le_trans (hf _ _ (by omega)) c⟩
    · rw [if_neg c, Nat.add_zero]
      by_cases hb : b < k
      · exact ih b hb
      · have e : b = k := by omega
        subst e
        exact ⟨fun z => absurd z c, fun z => by omega⟩
/-! ### the rows, by columns -/
theorem colS_rows {s : Nat} {f : Nat → Nat} {N : Nat} (hf : ∀ i b, i < N → (f b ≤ i ↔ b < rowW s i)) {k : Nat} (hk : ∀ i, i < N → rowW s i ≤ k) : ∀ n, n ≤ N → colS f n k = rsum s n
  | 0, _ => colS_zero f k
  | n + 1, h => by
    have ih := colS_rows hf hk n (by omega)
    rw [colS_succ, ih]
    show _ = rsum s n + rowW s n
    congr 1
    have hn := hf n
    have hkn := hk n (by omega)
    have : ∀ k, cntS f n k = min k (rowW s n) := by
      intro k
      induction k with
      | zero => show 0 = _; omega
      | succ k ihk =>
        show cntS f n k + (if f k ≤ n then 1 else 0) = _
        rw [ihk]
        by_cases c : f k ≤ n
        · have := (hn k (by omega)).mp c
          rw [if_pos c]; omega
        · have : ¬ k < rowW s n := fun z => c ((hn k (by omega)).mpr z)
          rw [if_neg c]; omega
    rw [this]
    omega
/-! ### the floor, one text more -/
def CmS (e s : Nat) (b : Nat) : Nat := Cm e s (b + 1)
theorem Tm_col (e s n : Nat) : ∀ k, Tm e s n k = colS (CmS e s) n k
  | 0 => rfl
  | k + 1 => by
    show Tm e s n k + (n - Cm e s (k + 1)) = colS (CmS e s) n k + (n - CmS e s k)
    rw [Tm_col e s n k]
    rfl
theorem Cm_is (e s : Nat) : ∀ b, Cm e s (b + 1) + 2 * s = e + s * 2 ^ (b + 1)
  | 0 => by
    show 0 + e + 2 * s = e + s * 2
    omega
  | b + 1 => by
    have ih := Cm_is e s b
    show Cm e s (b + 1) + s * 2 ^ (b + 1) + 2 * s = e + s * 2 ^ (b + 2)
    rw [Nat.pow_succ 2 (b + 1), ← Nat.mul_assoc]
    omega
def flF (e s n : Nat) : Nat := cntS (CmS e s) n (n + 2)
theorem Cm_past {e s : Nat} (hs : 1 ≤ s) (n : Nat) : n < Cm e s (n + 2) := by
  have h1 := Cm_big (e := e) hs (n + 2)
  have h2 := two_pow_gt (n + 1)
  have h3 : (2 : Nat) ^ (n + 1 + 1) = 2 ^ (n + 2) := rfl
  omega
theorem totE_succ {e s : Nat} (hs : 1 ≤ s) (n : Nat) : totE e s (n + 1) = totE e s n + flF e s n := by
  have h1 : totE e s (n + 1) = Tm e s (n + 1) (n + 2) := rfl
  have h2 : Tm e s n (n + 2) = totE e s n := tot_is hs (Nat.le_of_lt (Cm_past hs n))
  rw [h1, ← h2, Tm_col, Tm_col, colS_succ]
  rfl
theorem flF_spec {e s : Nat} (hs : 1 ≤ s) (n : Nat) : n < Cm e s (flF e s n + 1) ∧ ∀ b, b < flF e s n → Cm e s (b + 1) ≤ n := by
  have hm : ∀ i j, i ≤ j → CmS e s i ≤ CmS e s j := fun i j h => Cm_mono e s (show i + 1 ≤ j + 1 by omega)
  have hl := cntS_le (CmS e s) n (n + 2)
  have hsp := cntS_spec hm n (n + 2)
  have hp := Cm_past (e := e) hs n
  have h1 : flF e s n < n + 2 := by
    by_cases c : flF e s n < n + 2
    · exact c
    · have hc : cntS (CmS e s) n (n + 2) = n + 2 := Nat.le_antisymm hl (by unfold flF at c; omega)
      have := (hsp (n + 1) (by omega)).mpr (by omega)
      have : Cm e s (n + 2) ≤ n := this
      omega
  refine ⟨?_, fun b hb => (hsp b (by omega)).mpr hb⟩
  by_cases c : n < Cm e s (flF e s n + 1)
  · exact c
  · have := (hsp (flF e s n) h1).mp (show Cm e s (flF e s n + 1) ≤ n by omega)
    unfold flF at this
    omega
theorem totE_zero (e s : Nat) : totE e s 0 = 0 := by
  show Tm e s 0 1 = 0
  show 0 + (0 - Cm e s 1) = 0
  omega
/-! ### what is told of the excess -/
theorem row_floor {s t n : Nat} (hs : 1 ≤ s) (ht : 1 ≤ t) : rowW s (n + 1) ≤ cl s + 1 + 2 * cl t + flF (t * (t - 1) / 2) (t * t) n := by
  have hS : 1 ≤ t * t := Nat.mul_pos ht ht
  obtain ⟨h1, _⟩ := flF_spec (e := t * (t - 1) / 2) hS n
  have h2 := Cm_is (t * (t - 1) / 2) (t * t) (flF (t * (t - 1) / 2) (t * t) n)
  generalize flF (t * (t - 1) / 2) (t * t) n = b at h1 h2 ⊢
  have he : t * (t - 1) / 2 ≤ t * t := Nat.le_trans (Nat.div_le_self _ _) (Nat.mul_le_mul_left _ (Nat.sub_le _ _))
  have h3 : n + 2 ≤ t * t * 2 ^ (b + 1) := by omega
  have ht2 := (cl_spec ht).1
  have h4 : t * t ≤ 2 ^ cl t * 2 ^ cl t := Nat.mul_le_mul ht2 ht2
  have h5 : n + 2 ≤ 2 ^ cl t * 2 ^ cl t * 2 ^ (b + 1) := Nat.le_trans h3 (Nat.mul_le_mul_right _ h4)
  have hs2 := (cl_spec hs).1
  have h6 : (n + 2) * (s - 1) + 2 ≤ s * (n + 2) := by
    obtain ⟨k, rfl⟩ : ∃ k, s = k + 1 := ⟨s - 1, by omega⟩
    have a1 : (n + 2) * k = k * (n + 2) := Nat.mul_comm _ _
    have a2 : (k + 1) * (n + 2) = k * (n + 2) + (n + 2) := by rw [Nat.add_mul, Nat.one_mul]
    rw [Nat.add_sub_cancel, a1, a2]
    omega
  have h7 : s * (n + 2) ≤ 2 ^ cl s * (2 ^ cl t * 2 ^ cl t * 2 ^ (b + 1)) := Nat.mul_le_mul hs2 h5
  have h8 : 2 ^ cl s * (2 ^ cl t * 2 ^ cl t * 2 ^ (b + 1)) = 2 ^ (cl s + 1 + 2 * cl t + b) := by
    rw [← Nat.pow_add, ← Nat.pow_add, ← Nat.pow_add]
    congr 1
    omega
  rw [h8] at h7
  exact cl_le (by omega) (Nat.le_trans h6 h7)
def eachF (s t : Nat) : Nat := cl s + 1 + 2 * cl t
def flT (t c : Nat) : Nat := totE (t * (t - 1) / 2) (t * t) c
theorem rsum_floor {s t : Nat} (hs : 1 ≤ s) (ht : 1 ≤ t) : ∀ c, rsum s (c + 1) ≤ rowW s 0 + c * eachF s t + flT t c
  | 0 => by
    show 0 + rowW s 0 ≤ _
    omega
  | c + 1 => by
    have ih := rsum_floor hs ht c
    have h := row_floor (n := c) hs ht
    have h2 : flT t (c + 1) = flT t c + flF (t * (t - 1) / 2) (t * t) c := totE_succ (Nat.mul_pos ht ht) c
    show rsum s (c + 1) + rowW s (c + 1) ≤ _
    rw [h2, Nat.add_mul, Nat.one_mul]
    unfold eachF at ih ⊢
    omega
def toldF (s t c : Nat) : Nat := c * eachF s t + cl s + 2 + 2 * (cl (c + 2) - 1)
theorem gap_told {s t : Nat} (hs : 1 ≤ s) (ht : 1 ≤ t) (c : Nat) : plF s c ≤ flT t c + toldF s t c := by
  have h1 := rsum_floor hs ht c
  have h2 : rowW s 0 ≤ cl s + 1 := by
    refine cl_le (by omega) ?_
    have := (cl_spec hs).1
    rw [Nat.pow_succ]
    omega
  have h3 := cl_mono (n := c + 1) (m := c + 2) (by omega) (by omega)
  have h4 : 0 < cl (c + 2) := lt_cl (by omega) (by show 1 < _; omega)
  unfold plF toldF
  omega
/-! ### more pieces, more excess -/
theorem floor_row {s t n : Nat} (hs : 2 ≤ s) (ht : 1 ≤ t) : flF (t * (t - 1) / 2) (t * t) n < rowW s (n + 1) := by
  have hS : 1 ≤ t * t := Nat.mul_pos ht ht
  obtain ⟨_, h2⟩ := flF_spec (e := t * (t - 1) / 2) hS n
  generalize flF (t * (t - 1) / 2) (t * t) n = b at h2 ⊢
  have h6 : n + 4 ≤ (n + 1 + 1) * (s - 1) + 2 := by
    have := Nat.mul_le_mul_left (n + 1 + 1) (show 1 ≤ s - 1 by omega)
    omega
  refine lt_cl (by omega) ?_
  cases b with
  | zero => show 1 < _; omega
  | succ b =>
    have h3 := h2 b (by omega)
    have h4 := Cm_is (t * (t - 1) / 2) (t * t) b
    have h5 : 2 ^ (b + 1) * 1 + 2 * (t * t) ≤ t * t * 2 ^ (b + 1) + 2 := by
      obtain ⟨k, hk⟩ : ∃ k, t * t = k + 1 := ⟨t * t - 1, by omega⟩
      have h7 : 2 ≤ 2 ^ (b + 1) := by rw [Nat.pow_succ]; have := Nat.one_le_two_pow (n := b); omega
      rw [hk, Nat.add_mul, Nat.mul_add, Nat.one_mul]
      have := Nat.mul_le_mul_left k h7
      omega
    omega
theorem gap_step {s t : Nat} (hs : 2 ≤ s) (ht : 1 ≤ t) (c : Nat) : plF s c + flT t (c + 1) < plF s (c + 1) + flT t c := by
  have h1 := floor_row (n := c) hs ht
  have h2 : flT t (c + 1) = flT t c + flF (t * (t - 1) / 2) (t * t) c := totE_succ (Nat.mul_pos ht ht) c
  have h3 := cl_mono (n := c + 1) (m := c + 1 + 1) (by omega) (by omega)
  have h4 : rsum s (c + 1 + 1) = rsum s (c + 1) + rowW s (c + 1) := rfl
  unfold plF
  omega
def gapF (s t c : Nat) : Int := (plF s c : Int) - (flT t c : Int)
theorem gap_lt {s t : Nat} (hs : 2 ≤ s) (ht : 1 ≤ t) {c d : Nat} (h : c < d) : gapF s t c < gapF s t d := by
  induction d with
  | zero => omega
  | succ d ih =>
    have h1 := gap_step hs ht d
    have h2 : gapF s t d < gapF s t (d + 1) := by unfold gapF; omega
    by_cases e : c = d
    · subst e; exact h2
    · exact Int.lt_trans (ih (by omega)) h2
theorem gap_le {s t : Nat} (hs : 2 ≤ s) (ht : 1 ≤ t) {c d : Nat} (h : c ≤ d) : gapF s t c ≤ gapF s t d := by
  by_cases e : c = d
  · subst e; exact Int.le_refl _
  · exact Int.le_of_lt (gap_lt hs ht (by omega))
theorem gap_told' {s t : Nat} (hs : 1 ≤ s) (ht : 1 ≤ t) (c : Nat) : gapF s t c ≤ (toldF s t c : Int) := by
  have := gap_told hs ht c
  unfold gapF
  omega
end My

set_option Elab.async false
set_option linter.all false
set_option maxRecDepth 100000
set_option maxHeartbeats 4000000
namespace My
/-! ### free places: codes, how many taken ones lie below, one more taken -/
def cdF (abc : List Nat) (r : Nat × Nat) : Nat := r.1 * abc.length + abc.idxOf r.2
def belF (ts : List Nat) (c : Nat) : Nat := ts.countP fun t => decide (t < c)
def takF (ts : List Nat) (c : Nat) : List Nat := ts.take (belF ts c) ++ [c] ++ ts.drop (belF ts c)
theorem belF_le (ts : List Nat) (c : Nat) : belF ts c ≤ ts.length := List.countP_le_length
theorem belF_at {ts : List Nat} {c b : Nat} (hb : b ≤ ts.length) (h1 : ∀ i, i < b → ts.getD i 0 < c) (h2 : ∀ i, b ≤ i → i < ts.length → ¬ ts.getD i 0 < c) : belF ts c = b := by
  have e : belF ts c = belF (ts.take b) c + belF (ts.drop b) c := by
    unfold belF
    rw [← List.countP_append, List.take_append_drop]
  have g : ∀ i (hi : i < ts.length), ts.getD i 0 = ts[i] := fun i hi => by rw [List.getD_eq_getElem?_getD, List.getElem?_eq_getElem hi]; rfl
  have e1 : belF (ts.take b) c = (ts.take b).length := by
    refine List.countP_eq_length.mpr fun x hx => ?_
    obtain ⟨i, hi, rfl⟩ := List.mem_iff_getElem.mp hx
    rw [List.length_take] at hi
    rw [List.getElem_take]
    have := h1 i (by omega)
    rw [g i (by omega)] at this
    exact decide_eq_true this
  have e2 : belF (ts.drop b) c = 0 := by
    refine List.countP_eq_zero.mpr fun x hx => ?_
    obtain ⟨i, hi, rfl⟩ := List.mem_iff_getElem.mp hx
    rw [List.length_drop] at hi
    rw [List.getElem_drop]
    have := h2 (b + i) (by omega) (by omega)
    rw [g (b + i) (by omega)] at this
    simpa using this
  rw [e, e1, e2, List.length_take]
  omega
abbrev Asc (ts : List Nat) : Prop := ts.Pairwise (· < ·)
theorem asc_split : ∀ {ts : List Nat} {c : Nat}, Asc ts → (∀ x ∈ ts.take (belF ts c), x < c) ∧ ∀ x ∈ ts.drop (belF ts c), c ≤ x
  | [], c, _ => ⟨fun x h => by simp at h, fun x h => by simp at h⟩
  | t :: ts, c, h => by
    obtain ⟨h1, h2⟩ := List.pairwise_cons.mp h
    have ih := asc_split (c := c) h2
    by_cases e : t < c
    · have hb : belF (t :: ts) c = belF ts c + 1 := List.countP_cons_of_pos (by simpa using e)
      rw [hb]
      refine ⟨fun x hx => ?_, fun x hx => ?_⟩
      · rw [List.take_succ_cons] at hx
        rcases List.mem_cons.mp hx with rfl | hx
        · exact e
        · exact ih.1 x hx
      · rw [List.drop_succ_cons] at hx
        exact ih.2 x hx
    · have hb : belF (t :: ts) c = 0 := by
        refine List.countP_eq_zero.mpr fun x hx => ?_
        rcases List.mem_cons.mp hx with rfl | hx
        · simpa using e
        · have := h1 x hx
          simp only [decide_eq_true_eq]
          omega
      rw [hb]
      refine ⟨fun x hx => by simp at hx, fun x hx => ?_⟩
      rcases List.mem_cons.mp hx with rfl | hx
      · omega
      · have := h1 x hx
        omega
theorem takF_mem {ts : List Nat} {c x : Nat} : x ∈ takF ts c ↔ x = c ∨ x ∈ ts := by
  unfold takF
  have : x ∈ ts ↔ x ∈ ts.take (belF ts c) ∨ x ∈ ts.drop (belF ts c) := by
    rw [← List.mem_append, List.take_append_drop]
  rw [this]
  simp only [List.mem_append, List.mem_singleton]
  constructor
  · rintro ((h | h) | h)
    · exact .inr (.inl h)
    · exact .inl h
    · exact .inr (.inr h)
  · rintro (h | h | h)
    · exact .inl (.inr h)
    · exact .inl (.inl h)
    · exact .inr h
theorem takF_len (ts : List Nat) (c : Nat) : (takF ts c).length = ts.length + 1 := by
  have := belF_le ts c
  unfold takF
  rw [List.length_append, List.length_append, List.length_take, List.length_drop]
  show min _ _ + 1 + _ = _
  omega
theorem takF_asc {ts : List Nat} {c : Nat} (h : Asc ts) (hn : c ∉ ts) : Asc (takF ts c) := by
  obtain ⟨h1, h2⟩ := asc_split (c := c) h
  have ht : Asc (ts.take (belF ts c)) := List.Pairwise.sublist (List.take_sublist _ _) h
  have hd : Asc (ts.drop (belF ts c)) := List.Pairwise.sublist (List.drop_sublist _ _) h
  have hd2 : ∀ x ∈ ts.drop (belF ts c), c < x := fun x hx => by
    have := h2 x hx
    have hx2 : x ∈ ts := List.mem_of_mem_drop hx
    have : x ≠ c := fun z => hn (z ▸ hx2)
    omega
  unfold takF Asc
  rw [List.append_assoc, List.pairwise_append]
  refine ⟨ht, ?_, fun a ha b hb => ?_⟩
  · show (c :: ts.drop (belF ts c)).Pairwise (· < ·)
    exact List.pairwise_cons.mpr ⟨hd2, hd⟩
  · have ha2 := h1 a ha
    rcases List.mem_append.mp hb with hb | hb
    · rw [List.mem_singleton.mp hb]; exact ha2
    · exact Nat.lt_trans ha2 (hd2 b hb)
/-- a place's number among the free ones lies below their number -/
theorem place_lt {ts : List Nat} {c M : Nat} (h : Asc ts) (hn : c ∉ ts) (hM : ∀ x ∈ ts, x < M) (hc : c < M) : c - belF ts c + ts.length < M ∧ belF ts c ≤ c := by
  have hb := belF_le ts c
  obtain ⟨h1, h2⟩ := asc_split (c := c) h
  have nd : ∀ l : List Nat, Asc l → l.Nodup := fun l hl => List.Pairwise.imp (fun hab => Nat.ne_of_lt hab) hl
  have ht : (ts.take (belF ts c)).length ≤ (List.range c).length := by
    refine List.Nodup.length_le_of_subset (nd _ (List.Pairwise.sublist (List.take_sublist _ _) h)) fun x hx => ?_
    exact List.mem_range.mpr (h1 x hx)
  have hd : (ts.drop (belF ts c)).length ≤ (List.range' (c + 1) (M - 1 - c)).length := by
    refine List.Nodup.length_le_of_subset (nd _ (List.Pairwise.sublist (List.drop_sublist _ _) h)) fun x hx => ?_
    have a1 := h2 x hx
    have hx2 : x ∈ ts := List.mem_of_mem_drop hx
    have a2 := hM x hx2
    have a3 : x ≠ c := fun z => hn (z ▸ hx2)
    rw [List.mem_range'_1]
    omega
  rw [List.length_take, List.length_range] at ht
  rw [List.length_drop, List.length_range'] at hd
  omega
/-! ### the place numbers of rows -/
def stepP (abc : List Nat) (s : List Nat × List Nat) (r : Nat × Nat) : List Nat × List Nat := (takF s.1 (cdF abc r), s.2 ++ [cdF abc r - belF s.1 (cdF abc r)])
def plcF (abc : List Nat) (rows : List (Nat × Nat)) : List Nat × List Nat := rows.foldl (stepP abc) ([], [])
theorem plcF_snoc (abc : List Nat) (rows : List (Nat × Nat)) (r : Nat × Nat) : plcF abc (rows ++ [r]) = stepP abc (plcF abc rows) r := by
  unfold plcF
  rw [List.foldl_append]
  rfl
structure RowsOk (abc : List Nat) (rows : List (Nat × Nat)) : Prop where
  nd : rows.Nodup
  par : ∀ (i : Nat) (r : Nat × Nat), rows[i]? = some r → r.1 ≤ i
  let_ : ∀ r ∈ rows, r.2 ∈ abc
theorem RowsOk.init {abc : List Nat} {l : List (Nat × Nat)} {a : Nat × Nat} (h : RowsOk abc (l ++ [a])) : RowsOk abc l ∧ a ∉ l ∧ a.1 ≤ l.length ∧ a.2 ∈ abc := by
  obtain ⟨n1, n2, n3⟩ := List.nodup_append.mp h.nd
  refine ⟨⟨n1, fun i r hr => h.par i r ?_, fun r hr => h.let_ r (List.mem_append_left _ hr)⟩, fun hm => n3 a hm a (by simp) rfl, h.par l.length a ?_, h.let_ a (by simp)⟩
  · rw [List.getElem?_append_left (List.getElem?_eq_some_iff.mp hr).1]; exact hr
  · rw [List.getElem?_append_right (Nat.le_refl _), Nat.sub_self]; rfl
theorem cdF_lt {abc : List Nat} {r : Nat × Nat} {i : Nat} (h : r.2 ∈ abc) (hi : r.1 ≤ i) : cdF abc r < (i + 1) * abc.length := by
  have h1 := List.idxOf_lt_length_of_mem h
  have h2 := Nat.mul_le_mul_right abc.length hi
  unfold cdF
  rw [Nat.add_mul, Nat.one_mul]
  omega
theorem cdF_inj {abc : List Nat} {r q : Nat × Nat} (h1 : r.2 ∈ abc) (h2 : q.2 ∈ abc) (e : cdF abc r = cdF abc q) : r = q := by
  have a1 := List.idxOf_lt_length_of_mem h1
  have a2 := List.idxOf_lt_length_of_mem h2
  unfold cdF at e
  have d1 : (r.1 * abc.length + abc.idxOf r.2) / abc.length = r.1 := by
    rw [Nat.mul_comm, Nat.mul_add_div (by omega), Nat.div_eq_of_lt a1, Nat.add_zero]
  have d2 : (q.1 * abc.length + abc.idxOf q.2) / abc.length = q.1 := by
    rw [Nat.mul_comm, Nat.mul_add_div (by omega), Nat.div_eq_of_lt a2, Nat.add_zero]
  have e1 : r.1 = q.1 := by rw [← d1, ← d2, e]
  rw [e1] at e
  have e2 : abc.idxOf r.2 = abc.idxOf q.2 := by omega
  have g1 : abc[abc.idxOf r.2]'a1 = r.2 := List.getElem_idxOf a1
  have g2 : abc[abc.idxOf q.2]'a2 = q.2 := List.getElem_idxOf a2
  have : r.2 = q.2 := by
    rw [← g1, ← g2]
    congr 1
  exact Prod.ext e1 this
structure PlcOk (abc : List Nat) (rows : List (Nat × Nat)) : Prop where
  asc : Asc (plcF abc rows).1
  mem : ∀ x, x ∈ (plcF abc rows).1 ↔ ∃ r ∈ rows, cdF abc r = x
  tl : (plcF abc rows).1.length = rows.length
  nl : (plcF abc rows).2.length = rows.length
  lt : ∀ i n, (plcF abc rows).2[i]? = some n → n + i < (i + 1) * abc.length
theorem plcOk {abc : List Nat} {rows : List (Nat × Nat)} (h : RowsOk abc rows) : PlcOk abc rows := by
  induction rows using snoc_ind with
  | h0 => exact ⟨List.Pairwise.nil, fun x => ⟨fun h => (by cases h), fun ⟨r, hr, _⟩ => (by cases hr)⟩, rfl, rfl, fun i n h => by cases h⟩
  | hs l a ih =>
    obtain ⟨hl, hn, ha, hc⟩ := h.init
    have I := ih hl
    have hnc : cdF abc a ∉ (plcF abc l).1 := fun z => by
      obtain ⟨r, hr, e⟩ := (I.mem _).mp z
      rw [cdF_inj (hl.let_ r hr) hc e] at hr
      exact hn hr
    have hM : ∀ x ∈ (plcF abc l).1, x < (l.length + 1) * abc.length := fun x hx => by
      obtain ⟨r, hr, e⟩ := (I.mem x).mp hx
      obtain ⟨i, hi, e2⟩ := List.mem_iff_getElem.mp hr
      have := hl.par i r (by rw [List.getElem?_eq_getElem hi, e2])
      rw [← e]
      exact cdF_lt (hl.let_ r hr) (by omega)
    obtain ⟨p1, p2⟩ := place_lt I.asc hnc hM (cdF_lt hc ha)
    rw [I.tl] at p1
    refine ⟨?_, fun x => ?_, ?_, ?_, fun i n hi => ?_⟩ <;> (try rw [plcF_snoc] at *)
    · exact takF_asc I.asc hnc
    · show x ∈ takF _ _ ↔ _
      rw [takF_mem, I.mem]
      constructor
      · rintro (rfl | ⟨r, hr, e⟩)
        · exact ⟨a, by simp, rfl⟩
        · exact ⟨r, List.mem_append_left _ hr, e⟩
      · rintro ⟨r, hr, e⟩
        rcases List.mem_append.mp hr with hr | hr
        · exact .inr ⟨r, hr, e⟩
        · rw [List.mem_singleton.mp hr] at e
          exact .inl e.symm
    · show (takF _ _).length = _
      rw [takF_len, I.tl, List.length_append]
      rfl
    · show (_ ++ [_]).length = _
      rw [List.length_append, I.nl, List.length_append]
      rfl
    · have hi2 : ((plcF abc l).2 ++ [cdF abc a - belF (plcF abc l).1 (cdF abc a)])[i]? = some n := hi
      by_cases c : i < (plcF abc l).2.length
      · rw [List.getElem?_append_left c] at hi2
        exact I.lt i n hi2
      · have e := (List.getElem?_eq_some_iff.mp hi2).1
        rw [List.length_append] at e
        have e2 : i = (plcF abc l).2.length := by
          have : [cdF abc a - belF (plcF abc l).1 (cdF abc a)].length = 1 := rfl
          omega
        subst e2
        rw [List.getElem?_append_right (Nat.le_refl _), Nat.sub_self] at hi2
        cases Option.some.inj hi2
        rw [I.nl]
        omega
theorem plcF_take (abc : List Nat) (rows : List (Nat × Nat)) (i : Nat) (r : Nat × Nat) (h : rows[i]? = some r) : plcF abc (rows.take (i + 1)) = stepP abc (plcF abc (rows.take i)) r := by
  have : rows.take (i + 1) = rows.take i ++ [r] := by rw [List.take_add_one, h]; rfl
  rw [this, plcF_snoc]
theorem RowsOk.take {abc : List Nat} {rows : List (Nat × Nat)} (h : RowsOk abc rows) (i : Nat) : RowsOk abc (rows.take i) :=
  ⟨List.Pairwise.sublist (List.take_sublist _ _) h.nd, fun j r hr => h.par j r (by
    rw [List.getElem?_take] at hr
    split at hr
    · exact hr
    · cases hr), fun r hr => h.let_ r (List.mem_of_mem_take hr)⟩
/-! ### the block of a cut -/
def wordF (s i n : Nat) : List Nat := bitsL (rowW s i) (1 + n)
def wordsF (s : Nat) (ns : List Nat) : List (List Nat) := (List.range ns.length).map fun i => wordF s i (ns.getD i 0)
def lastF (s c t : Nat) : List Nat := bitsL (rowW s c) 0 ++ bitsL (cl (c + 1)) t
def blkF (abc : List Nat) (rows : List (Nat × Nat)) (t : Nat) : List Nat := (wordsF abc.length (plcF abc rows).2).flatten ++ lastF abc.length rows.length t
theorem wordsF_sum (s : Nat) (ns : List Nat) : ((wordsF s ns).map List.length).sum = rsum s ns.length := by
  unfold wordsF
  have : ∀ n, (((List.range n).map fun i => wordF s i (ns.getD i 0)).map List.length).sum = rsum s n := by
    intro n
    induction n with
    | zero => rfl
    | succ n ih =>
      rw [List.range_succ, List.map_append, List.map_append, List.sum_append, ih]
      show _ + ((bitsL (rowW s n) _).length + 0) = rsum s n + rowW s n
      rw [bitsL_len]
      rfl
  exact this _
theorem blkF_len {abc : List Nat} {rows : List (Nat × Nat)} (h : RowsOk abc rows) (t : Nat) : (blkF abc rows t).length = plF abc.length rows.length := by
  have hn := (plcOk h).nl
  unfold blkF lastF plF
  rw [List.length_append, List.length_append, List.length_flatten, wordsF_sum, bitsL_len, bitsL_len, hn]
  show _ = cl (rows.length + 1) + (rsum abc.length rows.length + rowW abc.length rows.length)
  omega
theorem blkF_mem (abc : List Nat) (rows : List (Nat × Nat)) (t : Nat) : ∀ c ∈ blkF abc rows t, c = 48 ∨ c = 49 := by
  intro c hc
  unfold blkF lastF wordsF at hc
  rcases List.mem_append.mp hc with hc | hc
  · obtain ⟨l, hl, hc⟩ := List.mem_flatten.mp hc
    obtain ⟨i, _, rfl⟩ := List.mem_map.mp hl
    exact bits_mem _ _ c hc
  · rcases List.mem_append.mp hc with hc | hc
    · exact bits_mem _ _ c hc
    · exact bits_mem _ _ c hc
end My

set_option linter.all false
namespace My
/-- the length of the word number k -/
def lev (k : Nat) : Nat := (if 1 ≤ k then 1 else 0) + (if 3 ≤ k then 1 else 0) + (if 7 ≤ k then 1 else 0) + (if 15 ≤ k then 1 else 0)
def wS : Nat → List Nat → Nat
  | _, [] => 0
  | k, u :: us => lev k * u + wS (k + 1) us
def hi (c : Nat) : Nat → List Nat → Nat
  | _, [] => 0
  | k, u :: us => (if c ≤ k then u else 0) + hi c (k + 1) us
def lo (c : Nat) : Nat → List Nat → Nat
  | _, [] => 0
  | k, u :: us => (if c ≤ k then 0 else u) + lo c (k + 1) us
theorem wS_hi : ∀ (k : Nat) (us : List Nat), wS k us = hi 1 k us + hi 3 k us + hi 7 k us + hi 15 k us
  | _, [] => rfl
  | k, u :: us => by
    show lev k * u + wS (k + 1) us = _
    have e : ∀ c, hi c k (u :: us) = (if c ≤ k then u else 0) + hi c (k + 1) us := fun _ => rfl
    rw [wS_hi (k + 1) us, e, e, e, e]
    unfold lev
    have h : ∀ (p q r t : Prop) [Decidable p] [Decidable q] [Decidable r] [Decidable t], ((if p then 1 else 0) + (if q then 1 else 0) + (if r then 1 else 0) + (if t then 1 else 0)) * u = (if p then u else 0) + (if q then u else 0) + (if r then u else 0) + (if t then u else 0) := by
      intro p q r t _ _ _ _
      split <;> split <;> split <;> split <;> omega
    rw [h]
    omega
theorem hi_lo (c : Nat) : ∀ (k : Nat) (us : List Nat), hi c k us + lo c k us = us.sum
  | _, [] => rfl
  | k, u :: us => by
    have := hi_lo c (k + 1) us
    rw [List.sum_cons]
    unfold hi lo
    split <;> omega
theorem lo_le (c : Nat) : ∀ (k : Nat) {rs us : List Nat}, Bd rs us → lo c k us ≤ lo c k rs
  | _, [], [], _ => Nat.le_refl _
  | k, r :: rs, u :: us, h => by
    have := lo_le c (k + 1) h.2
    have := h.1
    unfold lo
    split <;> omega
  | _, [], _ :: _, h => h.elim
  | _, _ :: _, [], h => h.elim
theorem lo_eq (c : Nat) : ∀ (k : Nat) {rs us : List Nat}, Bd rs us → (lo c k us = lo c k rs ↔ ∀ i, i < rs.length → k + i < c → us.getD i 0 = rs.getD i 0)
  | _, [], [], _ => by simp
  | k, r :: rs, u :: us, h => by
    have ih := lo_eq c (k + 1) h.2
    have hl := lo_le c (k + 1) h.2
    have hu := h.1
    constructor
    · intro e i hi hk
      unfold lo at e
      cases i with
      | zero => rw [if_neg (by omega), if_neg (by omega)] at e; simp; omega
      | succ i =>
        have e2 : lo c (k + 1) us = lo c (k + 1) rs := by split at e <;> omega
        have := ih.mp e2 i (by simpa using hi) (by omega)
        simpa using this
    · intro a
      have e2 : lo c (k + 1) us = lo c (k + 1) rs := ih.mpr fun i hi hk => by
        have := a (i + 1) (by simpa using hi) (by omega)
        simpa using this
      unfold lo
      rw [e2]
      split
      · rfl
      · have := a 0 (by simp) (by omega)
        simp at this
        omega
  | _, [], _ :: _, h => h.elim
  | _, _ :: _, [], h => h.elim
theorem hi_zero (c : Nat) : ∀ (k : Nat) (us : List Nat), (hi c k us = 0 ↔ ∀ i, i < us.length → c ≤ k + i → us.getD i 0 = 0)
  | _, [] => by simp [hi]
  | k, u :: us => by
    have ih := hi_zero c (k + 1) us
    constructor
    · intro e i hi' hk
      unfold hi at e
      cases i with
      | zero => rw [if_pos (by omega)] at e; simp; omega
      | succ i =>
        have := ih.mp (by omega) i (by simpa using hi') (by omega)
        simpa using this
    · intro a
      have e2 := ih.mpr fun i hi' hk => by
        have := a (i + 1) (by simpa using hi') (by omega)
        simpa using this
      unfold hi
      rw [e2]
      split
      · have := a 0 (by simp) (by omega)
        simpa using this
      · rfl
/-- the least number of bits of n of the 31 first words -/
def fewT (rs : List Nat) (n : Nat) : Nat := (n - lo 1 0 rs) + (n - lo 3 0 rs) + (n - lo 7 0 rs) + (n - lo 15 0 rs)
theorem lev_ge : ∀ k, k < 31 → ∀ L, 1 ≤ L → L ≤ 4 → (L ≤ lev k ↔ 2 ^ L - 1 ≤ k) := by
  intro k hk L h1 h4
  have : L = 1 ∨ L = 2 ∨ L = 3 ∨ L = 4 := by omega
  rcases this with rfl | rfl | rfl | rfl <;> unfold lev <;> simp only [Nat.reducePow, Nat.reduceSub] <;> split <;> split <;> split <;> split <;> omega
theorem lev_lt : ∀ k, lev k ≤ 4 := fun k => by unfold lev; split <;> split <;> split <;> split <;> omega
theorem few_choice {rs us : List Nat} (hl : rs.length = 31) (h : Bd rs us) {gap longest : Nat}
    (g1 : gap ≤ 5) (g2 : ∀ L, L ≤ 5 → (L ≤ gap ↔ ∀ k, k < 31 → us.getD k 0 < rs.getD k 0 → L ≤ lev k))
    (l1 : longest ≤ 4) (l2 : ∀ L, 1 ≤ L → (longest < L ↔ ∀ k, k < 31 → 0 < us.getD k 0 → lev k < L)) :
    fewT rs us.sum ≤ wS 0 us ∧ (fewT rs us.sum = wS 0 us ↔ longest ≤ gap) := by
  have hul : us.length = 31 := by rw [h.len, hl]
  have one : ∀ L, 1 ≤ L → L ≤ 4 → us.sum - lo (2 ^ L - 1) 0 rs ≤ hi (2 ^ L - 1) 0 us ∧ (us.sum - lo (2 ^ L - 1) 0 rs = hi (2 ^ L - 1) 0 us ↔ (L ≤ gap ∨ longest < L)) := by
    intro L h1 h4
    have e1 := hi_lo (2 ^ L - 1) 0 us
    have e2 := lo_le (2 ^ L - 1) 0 h
    have e3 := lo_eq (2 ^ L - 1) 0 h
    have e4 := hi_zero (2 ^ L - 1) 0 us
    rw [hl] at e3
    rw [hul] at e4
    have a1 : L ≤ gap ↔ lo (2 ^ L - 1) 0 us = lo (2 ^ L - 1) 0 rs := by
      rw [g2 L (by omega), e3]
      constructor
      · intro a i hi hk
        have := h.get i
        by_cases hlt : us.getD i 0 < rs.getD i 0
        · have := (lev_ge i hi L h1 h4).mp (a i hi hlt)
          omega
        · omega
      · intro a i hi hlt
        refine (lev_ge i hi L h1 h4).mpr (Nat.le_of_not_lt fun hk => ?_)
        have := a i hi (by omega)
        omega
    have a2 : longest < L ↔ hi (2 ^ L - 1) 0 us = 0 := by
      rw [l2 L h1, e4]
      constructor
      · intro a i hi hk
        by_cases hz : 0 < us.getD i 0
        · have := a i hi hz
          have := (lev_ge i hi L h1 h4).mpr (by omega)
          omega
        · omega
      · intro a i hi hz
        refine Nat.lt_of_not_le fun hge => ?_
        have := a i hi (by have := (lev_ge i hi L h1 h4).mp hge; omega)
        omega
    rw [a1, a2]
    omega
  rw [wS_hi]
  obtain ⟨b1, c1⟩ := one 1 (by decide) (by decide)
  obtain ⟨b2, c2⟩ := one 2 (by decide) (by decide)
  obtain ⟨b3, c3⟩ := one 3 (by decide) (by decide)
  obtain ⟨b4, c4⟩ := one 4 (by decide) (by decide)
  simp only [Nat.reducePow, Nat.reduceSub] at b1 c1 b2 c2 b3 c3 b4 c4
  unfold fewT
  refine ⟨by omega, ?_⟩
  constructor
  · intro e
    have d1 := c1.mp (by omega)
    have d2 := c2.mp (by omega)
    have d3 := c3.mp (by omega)
    have d4 := c4.mp (by omega)
    omega
  · intro e
    have d1 := c1.mpr (by omega)
    have d2 := c2.mpr (by omega)
    have d3 := c3.mpr (by omega)
    have d4 := c4.mpr (by omega)
    omega
/-- the first strings of the plain list -/
def plainS (f : Nat → Nat) : Nat → Nat
  | 0 => 0
  | n + 1 => plainS f n + f n
theorem plain_53 {s : Nat} (hs : 1 ≤ s) : ∀ n, plainS (fun k => lev (k / s)) n = (n - s) + (n - 3 * s) + (n - 7 * s) + (n - 15 * s)
  | 0 => by simp [plainS]
  | n + 1 => by
    show plainS _ n + lev (n / s) = _
    rw [plain_53 hs n]
    have h : ∀ c, c ≤ n / s ↔ c * s ≤ n := fun c => Nat.le_div_iff_mul_le hs
    have h1 := h 1
    unfold lev
    simp only [h]
    split <;> split <;> split <;> split <;> omega
theorem plain_54 {S : Nat} (hs : 1 ≤ S) : ∀ n, plainS (fun k => lev (1 + k / S)) n = n + (n - 2 * S) + (n - 6 * S) + (n - 14 * S)
  | 0 => by simp [plainS]
  | n + 1 => by
    show plainS _ n + lev (1 + n / S) = _
    rw [plain_54 hs n]
    have h : ∀ c, c ≤ n / S ↔ c * S ≤ n := fun c => Nat.le_div_iff_mul_le hs
    have h2 : 3 ≤ 1 + n / S ↔ 2 * S ≤ n := by rw [← h]; omega
    have h3 : 7 ≤ 1 + n / S ↔ 6 * S ≤ n := by rw [← h]; omega
    have h4 : 15 ≤ 1 + n / S ↔ 14 * S ≤ n := by rw [← h]; omega
    have h1 : 1 ≤ 1 + n / S := Nat.le_add_right 1 _
    unfold lev
    simp only [h2, h3, h4, h1, if_true]
    split <;> split <;> split <;> omega
theorem few_53 {s n : Nat} (hs : 1 ≤ s) (hn : n ≤ 31 * s) : fewT (List.replicate 31 s) n = totE s s n := by
  rw [← tot_is (k := 5) hs (by simp [Cm, Rm]; omega)]
  simp [fewT, List.replicate, lo, Tm, Cm, Rm]
  omega
theorem few_54 {e S n : Nat} (hs : 1 ≤ S) (hn : n ≤ e + 30 * S) : fewT (e :: List.replicate 30 S) n = totE e S n := by
  rw [← tot_is (k := 5) hs (by simp [Cm, Rm]; omega)]
  simp [fewT, List.replicate, lo, Tm, Cm, Rm]
  omega
end My

set_option Elab.async false
set_option linter.all false
set_option maxRecDepth 100000
set_option maxHeartbeats 4000000
namespace My
open PySem PySem.Spec PyProof.Rows L2 Evl
def Big : Nat := 2 ^ 240
theorem rowW_one (i : Nat) : rowW 1 i = 1 := by
  have e : (i + 1) * (1 - 1) + 2 = 2 := by rw [Nat.sub_self, Nat.mul_zero]
  unfold rowW
  rw [e]
  exact Nat.le_antisymm (cl_le (by decide) (by decide)) (lt_cl (by decide) (by decide))
theorem rsum_one : ∀ n, rsum 1 n = n
  | 0 => rfl
  | n + 1 => by
    show rsum 1 n + rowW 1 n = n + 1
    rw [rsum_one n, rowW_one]
def capR (s b : Nat) : Nat := (2 ^ b - 2) / (s - 1)
theorem row_cap {s i b : Nat} (hs : 2 ≤ s) : rowW s i ≤ b ↔ i < capR s b := by
  have h1 : 0 < s - 1 := by omega
  have h2 : i < capR s b ↔ (i + 1) * (s - 1) ≤ 2 ^ b - 2 := by
    unfold capR
    rw [← Nat.le_div_iff_mul_le h1]
    omega
  rw [h2]
  have h3 : 0 < (i + 1) * (s - 1) := Nat.mul_pos (by omega) h1
  constructor
  · intro h
    have a := (cl_spec (n := (i + 1) * (s - 1) + 2) (by omega)).1
    have b2 := Nat.pow_le_pow_right (n := 2) (by decide) h
    have : rowW s i = cl ((i + 1) * (s - 1) + 2) := rfl
    rw [← this] at a
    omega
  · intro h
    exact cl_le (by omega) (by omega)
theorem rsum_flat {s b : Nat} : ∀ (k d : Nat), (∀ i, d ≤ i → i < d + k → rowW s i = b) → rsum s (d + k) = rsum s d + k * b
  | 0, d, _ => by rw [Nat.zero_mul]; rfl
  | k + 1, d, h => by
    have ih := rsum_flat k d fun i h1 h2 => h i h1 (by omega)
    show rsum s (d + k) + rowW s (d + k) = _
    rw [ih, h (d + k) (by omega) (by omega), Nat.add_mul, Nat.one_mul, Nat.add_assoc]
theorem capR_cast {s b : Nat} (hs : 2 ≤ s) (hb : 1 ≤ b) : ((1 : Int) * 2 ^ ((b : Int)).toNat - 2) / ((s : Int) - 1) = ((capR s b : Nat) : Int) := by
  have e1 : ((b : Int)).toNat = b := by omega
  have h2 : 2 ≤ 2 ^ b := by
    have := Nat.pow_le_pow_right (n := 2) (by decide) hb
    exact this
  have e2 : (1 : Int) * 2 ^ b - 2 = ((2 ^ b - 2 : Nat) : Int) := by
    rw [p2, Int.one_mul]
    omega
  have e3 : (s : Int) - 1 = ((s - 1 : Nat) : Int) := by omega
  rw [e1, e2, e3]
  unfold capR
  rw [Int.natCast_ediv]
theorem big_rows {s N b : Nat} (hs : 2 ≤ s) (h6 : s ≤ 6) (hN : N ≤ Big + 1) (h : capR s b < N) : b ≤ 250 := by
  by_cases c : b ≤ 250
  · exact c
  · have hp := Nat.pow_le_pow_right (n := 2) (by decide) (show 251 ≤ b by omega)
    have h1 : 2 ^ b - 2 < (capR s b + 1) * (s - 1) := by
      unfold capR
      have := Nat.lt_succ_of_le (Nat.le_refl ((2 ^ b - 2) / (s - 1)))
      exact (Nat.div_lt_iff_lt_mul (show 0 < s - 1 by omega)).mp this
    have h2 : (capR s b + 1) * (s - 1) ≤ (capR s b + 1) * 5 := Nat.mul_le_mul_left _ (by omega)
    have hB : Big * 100 < 2 ^ 251 := by unfold Big; decide +kernel
    have hB1 : 1 ≤ Big := by unfold Big; decide +kernel
    generalize 2 ^ b = X at hp h1
    generalize (2 : Nat) ^ 251 = Y at hp hB
    omega
/-- the law's own columns -/
def fitF (s N b : Nat) : Nat := if 1 < s then capR s b else if 1 < 2 ^ b then N else 0
theorem fit_rows {s N : Nat} (hs : 1 ≤ s) (i b : Nat) (hi : i < N) : fitF s N b ≤ i ↔ b < rowW s i := by
  unfold fitF
  by_cases c : 1 < s
  · rw [if_pos c]
    have := row_cap (s := s) (i := i) (b := b) (by omega)
    omega
  · have e : s = 1 := by omega
    subst e
    rw [if_neg c, rowW_one]
    by_cases d : 1 < 2 ^ b
    · rw [if_pos d]
      have : b ≠ 0 := fun z => by subst z; exact absurd d (by decide)
      omega
    · rw [if_neg d]
      have : b = 0 := by
        by_cases z : b = 0
        · exact z
        · exfalso
          have := Nat.pow_le_pow_right (n := 2) (by decide) (show 1 ≤ b by omega)
          have h2 : (2 : Nat) ^ 1 = 2 := rfl
          omega
      omega
theorem fit_end {s N k : Nat} (hs : 1 ≤ s) (h : N ≤ fitF s N k) : colS (fitF s N) N k = rsum s N := colS_rows (N := N) (fun i b hi => fit_rows hs i b hi) (fun i hi => by
  have := (fit_rows (N := N) hs i k hi)
  omega) N (Nat.le_refl _)
theorem fit_far {s N : Nat} (hs : 1 ≤ s) (h6 : s ≤ 6) (hN : N ≤ Big + 1) : N ≤ fitF s N 400 := by
  unfold fitF
  by_cases c : 1 < s
  · rw [if_pos c]
    by_cases d : N ≤ capR s 400
    · exact d
    · have := big_rows (s := s) (N := N) (b := 400) (by omega) h6 hN (by omega)
      omega
  · rw [if_neg c, if_pos (by decide +kernel)]
    exact Nat.le_refl _
end My

set_option Elab.async false
set_option linter.all false
set_option maxRecDepth 100000
set_option maxHeartbeats 4000000
namespace My
/-! ### two blocks part where their cuts do -/
theorem plc_nl (abc : List Nat) (rows : List (Nat × Nat)) : (plcF abc rows).2.length = rows.length := by
  induction rows using snoc_ind with
  | h0 => rfl
  | hs l a ih =>
    rw [plcF_snoc]
    show (_ ++ [_]).length = _
    rw [List.length_append, ih, List.length_append]
    rfl
theorem plc_take (abc : List Nat) (rows : List (Nat × Nat)) : ∀ k, k ≤ rows.length → (plcF abc rows).2.take k = (plcF abc (rows.take k)).2 := by
  induction rows using snoc_ind with
  | h0 => intro k hk; rw [List.take_nil]; exact List.take_nil
  | hs l a ih =>
    intro k hk
    rw [List.length_append] at hk
    have h1 : [a].length = 1 := rfl
    have hn := plc_nl abc l
    by_cases c : k ≤ l.length
    · rw [plcF_snoc, List.take_append_of_le_length c, ← ih k c]
      show (_ ++ [_]).take k = _
      rw [List.take_append_of_le_length (by omega)]
    · have e : k = (l ++ [a]).length := by rw [List.length_append]; omega
      rw [e, List.take_length, List.take_of_length_le (by rw [plc_nl]; exact Nat.le_refl _)]
def codF (abc : List Nat) (rows : List (Nat × Nat)) (k : Nat) : Nat := if k < rows.length then 1 + (plcF abc rows).2.getD k 0 else 0
theorem plc_at {abc : List Nat} {rows : List (Nat × Nat)} {k : Nat} {r : Nat × Nat} (h : rows[k]? = some r) : (plcF abc rows).2.getD k 0 = cdF abc r - belF (plcF abc (rows.take k)).1 (cdF abc r) := by
  have hk := (List.getElem?_eq_some_iff.mp h).1
  have h1 := plc_take abc rows (k + 1) hk
  rw [plcF_take abc rows k r h] at h1
  have h2 : ((plcF abc rows).2.take (k + 1)).getD k 0 = (plcF abc rows).2.getD k 0 := by
    rw [List.getD_eq_getElem?_getD, List.getElem?_take, if_pos (Nat.lt_succ_self k), ← List.getD_eq_getElem?_getD]
  rw [← h2, h1]
  show ((plcF abc (rows.take k)).2 ++ [_]).getD k 0 = _
  have hl : (plcF abc (rows.take k)).2.length = k := by rw [plc_nl, List.length_take]; omega
  have := getD_last (a := (plcF abc (rows.take k)).2) (x := cdF abc r - belF (plcF abc (rows.take k)).1 (cdF abc r)) (d := 0)
  rw [hl] at this
  exact this
theorem words_take (s : Nat) (ns : List Nat) (k : Nat) : (wordsF s ns).take k = wordsF s (ns.take k) := by
  unfold wordsF
  rw [← List.map_take, List.take_range, List.length_take]
  refine List.map_congr_left fun i hi => ?_
  have := List.mem_range.mp hi
  have e : (ns.take k).getD i 0 = ns.getD i 0 := by
    rw [List.getD_eq_getElem?_getD, List.getElem?_take, if_pos (by omega), ← List.getD_eq_getElem?_getD]
  rw [e]
theorem words_len (s : Nat) (ns : List Nat) : (wordsF s ns).length = ns.length := by
  unfold wordsF
  rw [List.length_map, List.length_range]
theorem words_get (s : Nat) (ns : List Nat) (k : Nat) (h : k < ns.length) : (wordsF s ns)[k]'(by rw [words_len]; exact h) = wordF s k (ns.getD k 0) := by
  unfold wordsF
  rw [List.getElem_map, List.getElem_range]
def preF (abc : List Nat) (rows : List (Nat × Nat)) : List Nat := (wordsF abc.length (plcF abc rows).2).flatten
theorem pre_len (abc : List Nat) (rows : List (Nat × Nat)) : (preF abc rows).length = rsum abc.length rows.length := by
  unfold preF
  rw [List.length_flatten, wordsF_sum, plc_nl]
theorem blk_split {abc : List Nat} {rows : List (Nat × Nat)} {k : Nat} (t : Nat) (hk : k ≤ rows.length) : ∃ rest, blkF abc rows t = preF abc (rows.take k) ++ (bitsL (rowW abc.length k) (codF abc rows k) ++ rest) ∧ (k = rows.length → rest = bitsL (cl (k + 1)) t) := by
  have hn := plc_nl abc rows
  by_cases c : k < rows.length
  · refine ⟨((wordsF abc.length (plcF abc rows).2).drop (k + 1)).flatten ++ lastF abc.length rows.length t, ?_, fun z => absurd c (by omega)⟩
    have e : wordsF abc.length (plcF abc rows).2 = wordsF abc.length (plcF abc (rows.take k)).2 ++ (wordF abc.length k ((plcF abc rows).2.getD k 0) :: (wordsF abc.length (plcF abc rows).2).drop (k + 1)) := by
      rw [← plc_take abc rows k hk, ← words_take, ← words_get abc.length (plcF abc rows).2 k (by omega), ← List.drop_eq_getElem_cons, List.take_append_drop]
    have e2 : codF abc rows k = 1 + (plcF abc rows).2.getD k 0 := if_pos c
    unfold blkF preF
    rw [e2]
    have e3 : (wordsF abc.length (plcF abc rows).2).flatten = (wordsF abc.length (plcF abc (rows.take k)).2).flatten ++ (wordF abc.length k ((plcF abc rows).2.getD k 0) ++ ((wordsF abc.length (plcF abc rows).2).drop (k + 1)).flatten) := by
      have := congrArg List.flatten e
      rw [List.flatten_append, List.flatten_cons] at this
      exact this
    rw [e3]
    unfold wordF
    simp only [List.append_assoc]
  · have ek : k = rows.length := by omega
    refine ⟨bitsL (cl (k + 1)) t, ?_, fun _ => rfl⟩
    have e2 : codF abc rows k = 0 := if_neg c
    rw [e2]
    subst ek
    rw [List.take_length]
    rfl
theorem bel_step (ts : List Nat) (c : Nat) : belF ts (c + 1) = belF ts c + ts.count c := by
  induction ts with
  | nil => rfl
  | cons t ts ih =>
    unfold belF at ih ⊢
    simp only [List.countP_cons, List.count_cons, ih]
    by_cases h1 : t < c
    · have h2 : ¬ (t == c) = true := by simp; omega
      rw [if_pos (by simpa using (by omega : t < c + 1)), if_pos (by simpa using h1), if_neg h2]
      omega
    · by_cases h3 : t = c
      · subst h3
        rw [if_pos (by simp), if_neg (by simp), if_pos (by simp)]
        omega
      · have h2 : ¬ (t == c) = true := by simpa using h3
        rw [if_neg (by simp; omega), if_neg (by simpa using h1), if_neg h2]
        omega
theorem bel_far {ts : List Nat} (h : Asc ts) (c : Nat) : ∀ k, belF ts (c + k) ≤ belF ts c + k
  | 0 => Nat.le_refl _
  | k + 1 => by
    have h1 := bel_far h c k
    have h2 : ts.count (c + k) ≤ 1 := List.nodup_iff_count.mp (List.Pairwise.imp (fun hab => Nat.ne_of_lt hab) h) _
    have h3 := bel_step ts (c + k)
    rw [show c + (k + 1) = c + k + 1 from rfl, h3]
    omega
theorem place_mono {ts : List Nat} {c d : Nat} (h : Asc ts) (hn : c ∉ ts) (hb : belF ts c ≤ c) (hcd : c < d) : c - belF ts c < d - belF ts d := by
  have h1 := bel_far h (c + 1) (d - (c + 1))
  have h2 := bel_step ts c
  rw [List.count_eq_zero_of_not_mem hn] at h2
  rw [show c + 1 + (d - (c + 1)) = d by omega] at h1
  omega
theorem idx_mono {abc : List Nat} (h : abc.Pairwise (· < ·)) {a b : Nat} (ha : a ∈ abc) (hb : b ∈ abc) (hab : a < b) : abc.idxOf a < abc.idxOf b := by
  have h1 := List.idxOf_lt_length_of_mem ha
  have h2 := List.idxOf_lt_length_of_mem hb
  have g1 : abc[abc.idxOf a]'h1 = a := List.getElem_idxOf h1
  have g2 : abc[abc.idxOf b]'h2 = b := List.getElem_idxOf h2
  by_cases c : abc.idxOf a < abc.idxOf b
  · exact c
  · exfalso
    by_cases d : abc.idxOf b = abc.idxOf a
    · have : b = a := by rw [← g1, ← g2]; congr 1
      omega
    · have := List.pairwise_iff_getElem.mp h _ _ h2 h1 (by omega)
      rw [g1, g2] at this
      omega
def rowLt (r q : Nat × Nat) : Bool := decide (r.1 < q.1) || (decide (r.1 = q.1) && decide (r.2 < q.2))
theorem cd_mono {abc : List Nat} (h : abc.Pairwise (· < ·)) {r q : Nat × Nat} (hr : r.2 ∈ abc) (hq : q.2 ∈ abc) (hl : rowLt r q = true) : cdF abc r < cdF abc q := by
  have h1 := List.idxOf_lt_length_of_mem hr
  unfold rowLt at hl
  rw [Bool.or_eq_true, Bool.and_eq_true] at hl
  unfold cdF
  rcases hl with hl | ⟨hl, hl2⟩
  · have h2 := of_decide_eq_true hl
    have h3 := Nat.mul_le_mul_right abc.length (show r.1 + 1 ≤ q.1 from h2)
    rw [Nat.add_mul, Nat.one_mul] at h3
    omega
  · have h2 := of_decide_eq_true hl
    have h3 := idx_mono h hr hq (of_decide_eq_true hl2)
    rw [h2]
    omega
theorem rowLt_total {r q : Nat × Nat} (h : r ≠ q) (hl : rowLt r q = false) : rowLt q r = true := by
  unfold rowLt at hl ⊢
  rw [Bool.or_eq_false_iff, Bool.and_eq_false_iff] at hl
  obtain ⟨h1, h2⟩ := hl
  have h1 := of_decide_eq_false h1
  rw [Bool.or_eq_true, Bool.and_eq_true]
  by_cases c : q.1 < r.1
  · exact .inl (decide_eq_true c)
  · have e : r.1 = q.1 := by omega
    refine .inr ⟨decide_eq_true e.symm, decide_eq_true ?_⟩
    rcases h2 with h2 | h2
    · exact absurd e (of_decide_eq_false h2)
    · have h2 := of_decide_eq_false h2
      by_cases c2 : q.2 < r.2
      · exact c2
      · exact absurd (Prod.ext e (by omega)) h
/-- the code of the row at k lies below 2 to the width -/
theorem cod_lt {abc : List Nat} {rows : List (Nat × Nat)} (h : RowsOk abc rows) (h1 : 1 ≤ abc.length) (k : Nat) : codF abc rows k < 2 ^ rowW abc.length k := by
  have hc := (cl_spec (n := (k + 1) * (abc.length - 1) + 2) (by omega)).1
  unfold rowW
  unfold codF
  by_cases c : k < rows.length
  · rw [if_pos c]
    have hn := (plcOk h).nl
    have hl := (plcOk h).lt k ((plcF abc rows).2.getD k 0) (by rw [List.getD_eq_getElem?_getD, List.getElem?_eq_getElem (by omega)]; rfl)
    obtain ⟨m, hm⟩ : ∃ m, abc.length = m + 1 := ⟨abc.length - 1, by omega⟩
    rw [hm] at hl hc ⊢
    rw [Nat.add_sub_cancel] at hc ⊢
    rw [Nat.mul_add, Nat.mul_one] at hl
    omega
  · rw [if_neg c]
    omega
theorem cod_mono {abc : List Nat} {A B : List (Nat × Nat)} {k : Nat} (hA : RowsOk abc A) (hB : RowsOk abc B) (hs : abc.Pairwise (· < ·)) (he : A.take k = B.take k) {r q : Nat × Nat} (ha : A[k]? = some r) (hb : B[k]? = some q) (hl : rowLt r q = true) : codF abc A k < codF abc B k := by
  have k1 := (List.getElem?_eq_some_iff.mp ha).1
  have k2 := (List.getElem?_eq_some_iff.mp hb).1
  unfold codF
  rw [if_pos k1, if_pos k2, plc_at ha, plc_at hb, ← he]
  have hOk := plcOk (hA.take k)
  have hra := hA.let_ r (List.mem_of_getElem? ha)
  have hqa := hB.let_ q (List.mem_of_getElem? hb)
  have hn : cdF abc r ∉ (plcF abc (A.take k)).1 := fun z => by
    obtain ⟨r2, hr2, e2⟩ := (hOk.mem _).mp z
    have := cdF_inj ((hA.take k).let_ r2 hr2) hra e2
    subst this
    obtain ⟨j, hj, e3⟩ := List.mem_iff_getElem.mp hr2
    rw [List.getElem_take] at e3
    rw [List.length_take] at hj
    have e4 : A[k]'k1 = r2 := (List.getElem?_eq_some_iff.mp ha).2
    have := (List.getElem_inj hA.nd).mp (e3.trans e4.symm)
    omega
  have hbel : belF (plcF abc (A.take k)).1 (cdF abc r) ≤ cdF abc r := by
    refine (place_lt (M := (k + 1) * abc.length) hOk.asc hn (fun x hx => ?_) (cdF_lt hra (hA.par k r ha))).2
    obtain ⟨r2, hr2, e2⟩ := (hOk.mem _).mp hx
    obtain ⟨j, hj, e3⟩ := List.mem_iff_getElem.mp hr2
    have h9 := (hA.take k).par j r2 (by rw [List.getElem?_eq_getElem hj, e3])
    rw [List.length_take] at hj
    rw [← e2]
    exact cdF_lt ((hA.take k).let_ r2 hr2) (by omega)
  have := place_mono hOk.asc hn hbel (cd_mono hs hra hqa hl)
  omega
/-- from R on, W letters tell the two apart; less tells which comes first -/
structure Seg (A B : List Nat) (R W : Nat) (less : Bool) : Prop where
  a : R + W ≤ A.length
  b : R + W ≤ B.length
  same : A.take R = B.take R
  lt : less = true → (A.drop R).take W < (B.drop R).take W
  gt : less = false → (B.drop R).take W < (A.drop R).take W
theorem seg_of {P X Y RA RB : List Nat} {W : Nat} {less : Bool} (hX : X.length = W) (hY : Y.length = W) (h1 : less = true → X < Y) (h2 : less = false → Y < X) : Seg (P ++ (X ++ RA)) (P ++ (Y ++ RB)) P.length W less := by
  have ea : ((P ++ (X ++ RA)).drop P.length).take W = X := by rw [List.drop_left, ← hX, List.take_left]
  have eb : ((P ++ (Y ++ RB)).drop P.length).take W = Y := by rw [List.drop_left, ← hY, List.take_left]
  refine ⟨?_, ?_, by rw [List.take_left, List.take_left], fun h => by rw [ea, eb]; exact h1 h, fun h => by rw [ea, eb]; exact h2 h⟩ <;>
  · rw [List.length_append, List.length_append]; omega
def PreFree (A B : List Nat) : Prop := ¬ A <+: B ∧ ¬ B <+: A
theorem PreFree.symm {A B : List Nat} (h : PreFree A B) : PreFree B A := ⟨h.2, h.1⟩
theorem pre_cut {A B : List Nat} {R W : Nat} (h : A <+: B) (ha : R + W ≤ A.length) : (A.drop R).take W = (B.drop R).take W := by
  obtain ⟨t, rfl⟩ := h
  rw [List.drop_append_of_le_length (by omega), List.take_append_of_le_length (by rw [List.length_drop]; omega)]
theorem lt_irr (l : List Nat) : ¬ l < l := List.lt_irrefl l
theorem Seg.free {A B : List Nat} {R W : Nat} {less : Bool} (h : Seg A B R W less) : PreFree A B := by
  have key : (A.drop R).take W ≠ (B.drop R).take W := fun z => by
    cases less with
    | true => have := h.lt rfl; rw [z] at this; exact lt_irr _ this
    | false => have := h.gt rfl; rw [z] at this; exact lt_irr _ this
  exact ⟨fun z => key (pre_cut z h.a), fun z => key (pre_cut z h.b).symm⟩
structure Common (A B : List (Nat × Nat)) (k : Nat) : Prop where
  a : k ≤ A.length
  b : k ≤ B.length
  eq : A.take k = B.take k
  ne : k < A.length → k < B.length → A[k]? ≠ B[k]?
theorem seg_mid {abc : List Nat} {A B : List (Nat × Nat)} {t u k : Nat} (hA : RowsOk abc A) (hB : RowsOk abc B) (h1 : 1 ≤ abc.length) (C : Common A B k) {less : Bool}
    (hl : less = true → codF abc A k < codF abc B k) (hg : less = false → codF abc B k < codF abc A k) : Seg (blkF abc A t) (blkF abc B u) (rsum abc.length k) (rowW abc.length k) less := by
  obtain ⟨ra, ea, _⟩ := blk_split (abc := abc) t C.a
  obtain ⟨rb, eb, _⟩ := blk_split (abc := abc) u C.b
  have hp := pre_len abc (A.take k)
  rw [List.length_take, Nat.min_eq_left C.a] at hp
  rw [ea, eb, ← C.eq, ← hp]
  exact seg_of (bitsL_len _ _) (bitsL_len _ _) (fun h => bits_lt _ _ _ (hl h) (cod_lt hB h1 k)) (fun h => bits_lt _ _ _ (hg h) (cod_lt hA h1 k))
theorem seg_row {abc : List Nat} {A B : List (Nat × Nat)} {t u k : Nat} (hA : RowsOk abc A) (hB : RowsOk abc B) (hs : abc.Pairwise (· < ·)) (h1 : 1 ≤ abc.length) (C : Common A B k) {r q : Nat × Nat} (ha : A[k]? = some r) (hb : B[k]? = some q) : Seg (blkF abc A t) (blkF abc B u) (rsum abc.length k) (rowW abc.length k) (rowLt r q) := by
  have k1 := (List.getElem?_eq_some_iff.mp ha).1
  have k2 := (List.getElem?_eq_some_iff.mp hb).1
  have hne : r ≠ q := fun z => C.ne k1 k2 (by rw [ha, hb, z])
  exact seg_mid hA hB h1 C (fun h => cod_mono hA hB hs C.eq ha hb h) (fun h => cod_mono hB hA hs C.eq.symm hb ha (rowLt_total hne h))
theorem seg_end {abc : List Nat} {A B : List (Nat × Nat)} {t u k : Nat} (hA : RowsOk abc A) (hB : RowsOk abc B) (h1 : 1 ≤ abc.length) (C : Common A B k) (he : k = A.length ∨ k = B.length) (hne : A.length ≠ B.length) : Seg (blkF abc A t) (blkF abc B u) (rsum abc.length k) (rowW abc.length k) (decide (A.length < B.length)) := by
  have a := C.a
  have b := C.b
  refine seg_mid hA hB h1 C (fun h => ?_) (fun h => ?_)
  · have h := of_decide_eq_true h
    unfold codF
    rw [if_neg (by omega), if_pos (by omega)]
    omega
  · have h := of_decide_eq_false h
    unfold codF
    rw [if_neg (by omega), if_pos (by omega)]
    omega
theorem seg_tail {abc : List Nat} {A B : List (Nat × Nat)} {t u k : Nat} (C : Common A B k) (ha : k = A.length) (hb : k = B.length) (ht : t ≤ A.length) (hu : u ≤ B.length) (hne : t ≠ u) : Seg (blkF abc A t) (blkF abc B u) (rsum abc.length k + rowW abc.length k) (cl (k + 1)) (decide (t < u)) := by
  obtain ⟨ra, ea, ha2⟩ := blk_split (abc := abc) t C.a
  obtain ⟨rb, eb, hb2⟩ := blk_split (abc := abc) u C.b
  have ha2 := ha2 ha
  have hb2 := hb2 hb
  subst ha2 hb2
  have hp := pre_len abc (A.take k)
  rw [List.length_take, Nat.min_eq_left C.a] at hp
  have hc : codF abc A k = codF abc B k := by
    unfold codF
    rw [if_neg (by omega), if_neg (by omega)]
  rw [ea, eb, ← C.eq, ← hc, ← List.append_assoc, ← List.append_assoc]
  have hl : (preF abc (A.take k) ++ bitsL (rowW abc.length k) (codF abc A k)).length = rsum abc.length k + rowW abc.length k := by
    rw [List.length_append, hp, bitsL_len]
  have hcl := (cl_spec (n := k + 1) (by omega)).1
  have := seg_of (P := preF abc (A.take k) ++ bitsL (rowW abc.length k) (codF abc A k)) (RA := []) (RB := []) (less := decide (t < u)) (bitsL_len (cl (k + 1)) t) (bitsL_len (cl (k + 1)) u) (fun h => bits_lt _ _ _ (of_decide_eq_true h) (by omega)) (fun h => bits_lt _ _ _ (by have := of_decide_eq_false h; omega) (by omega))
  rw [List.append_nil, List.append_nil, hl] at this
  exact this
theorem row_pos (s i : Nat) : 1 ≤ rowW s i := by
  unfold rowW
  by_cases c : 1 ≤ cl ((i + 1) * (s - 1) + 2)
  · exact c
  · exfalso
    have h := (cl_spec (n := (i + 1) * (s - 1) + 2) (by omega)).1
    have : cl ((i + 1) * (s - 1) + 2) = 0 := by omega
    rw [this] at h
    omega
theorem plF_lt {s : Nat} : ∀ {c d : Nat}, c < d → plF s c < plF s d := by
  have step : ∀ c, plF s c < plF s (c + 1) := fun c => by
    unfold plF
    have h1 := cl_mono (n := c + 1) (m := c + 1 + 1) (by omega) (by omega)
    have h2 := row_pos s (c + 1)
    show _ < _ + (rsum s (c + 1) + rowW s (c + 1))
    omega
  intro c d h
  induction d with
  | zero => omega
  | succ d ih =>
    by_cases e : c = d
    · subst e; exact step c
    · exact Nat.lt_trans (ih (by omega)) (step d)
theorem cut_inj {u v : List Nat} (h : cutC u = cutC v) : u = v := by
  have a := (cutOk u).joined
  have b := (cutOk v).joined
  rw [h] at a
  exact a.symm.trans b
theorem common_ex (A B : List (Nat × Nat)) : ∃ k, Common A B k := by
  induction A generalizing B with
  | nil => exact ⟨0, Nat.le_refl _, Nat.zero_le _, by rw [List.take_zero, List.take_zero], fun h => absurd h (Nat.not_lt_zero _)⟩
  | cons a A ih =>
    cases B with
    | nil => exact ⟨0, Nat.zero_le _, Nat.le_refl _, by rw [List.take_zero, List.take_zero], fun _ h => absurd h (Nat.not_lt_zero _)⟩
    | cons b B =>
      by_cases e : a = b
      · subst e
        obtain ⟨k, h1, h2, h3, h4⟩ := ih B
        exact ⟨k + 1, Nat.succ_le_succ h1, Nat.succ_le_succ h2, by rw [List.take_succ_cons, List.take_succ_cons, h3], fun x y => by
          rw [List.getElem?_cons_succ, List.getElem?_cons_succ]
          exact h4 (Nat.lt_of_succ_lt_succ x) (Nat.lt_of_succ_lt_succ y)⟩
      · exact ⟨0, Nat.zero_le _, Nat.zero_le _, by rw [List.take_zero, List.take_zero], fun _ _ z => e (Option.some.inj z)⟩
def bkF (abc u : List Nat) : List Nat := blkF abc (cutC u).1 (cutC u).2
theorem common_uniq_end {A B : List (Nat × Nat)} {k : Nat} (C : Common A B k) (ha : k = A.length) (hb : k = B.length) : A = B := by
  have := C.eq
  rw [List.take_of_length_le (by omega), List.take_of_length_le (by omega)] at this
  exact this
end My

set_option Elab.async false
set_option linter.all false
set_option maxRecDepth 100000
set_option maxHeartbeats 4000000
namespace My
open PySem PySem.Spec PyProof.Rows L2 Evl
open SX (S S_len S_cat S_beq S_beq_eq S_inj S_tl)
section
variable {K : PySem.W.Frag} {σ : L2.St} {H : Hp} {ta tb te tl : TE} {x y v : V} {D : Ends} {tu tz : TS}
/-- [e for t in texts for c in text] -/
theorem el_lc2 {a : Addr} {ts : List (List Nat)} {l : List Nat} {j k : Nat} {vs vs1 : List Nat} (h : Ev tl σ H (.ref a)) (hx : SqL K H a (sV ts)) (hl : ts.length ≤ 4000) (hl2 : l.length ≤ 6)
    (hw : ∀ x, wipe ((wipe σ vs).set j (some x)) vs = wipe σ vs) (hw1 : ∀ t x, wipe (((wipe ((wipe σ vs).set j (some t)) vs1)).set k (some x)) vs1 = wipe ((wipe σ vs).set j (some t)) vs1)
    (hin : ∀ t H1, Ex H H1 → Ev tb ((wipe σ vs).set j (some t)) H1 (.str (S l)))
    (he : ∀ (t : List Nat) (c : Nat) H1, Ex H H1 → t ∈ ts → Ev te ((wipe ((wipe σ vs).set j (some (.str (S t)))) vs1).set k (some (.str (S [c])))) H1 (.str (S (t ++ [c])))) :
    EvL (tLc2 (iList K tl) (gName j) tYes (iStr tb) (gName k) tYes te vs vs1) σ H (sV (ts.flatMap fun t => l.map fun c => t ++ [c])) := fun H0 e Q q => h H0 e _ fun H1 e1 => ⟨a, rfl, ⟨sV ts, ex_l (e.trans e1) hx⟩, fun Dl hD => by
  have e01 := e.trans e1
  have hVl : (sV ts).length = ts.length := List.length_map _
  have flen : ∀ m : Nat, ((ts.take m).flatMap fun t => l.map fun c => t ++ [c]).length ≤ 24000 := fun m => by
    have h2 : ∀ us : List (List Nat), us.length ≤ 4000 → (us.flatMap fun t => l.map fun c => t ++ [c]).length = us.length * l.length := fun us _ => by
      rw [List.length_flatMap]
      have : ∀ ws : List (List Nat), (ws.map fun u => (l.map fun c => u ++ [c]).length).sum = ws.length * l.length := fun ws => by
        induction ws with
        | nil => simp
        | cons w ws ih => rw [List.map_cons, List.sum_cons, ih, List.length_map, List.length_cons, Nat.add_mul, Nat.one_mul, Nat.add_comm]
      exact this us
    have h3 : (ts.take m).length ≤ 4000 := Nat.le_trans (List.length_take_le' ..) hl
    rw [h2 _ h3]
    exact Nat.mul_le_mul h3 hl2
  refine ⟨fun i m H' => m = ts.length - i ∧ i ≤ ts.length ∧ Ex H1 H' ∧ H' Dl = some (.lst (sV ((ts.take i).flatMap fun t => l.map fun c => t ++ [c]))), ⟨ts.length, by simp, Nat.zero_le _, Ex.new hD, by rw [List.take_zero, upd_same]; rfl⟩, ?_⟩
  rintro i m H' ⟨rfl, hi, p1, p2⟩
  have hq := ex_l (e01.trans p1) hx
  by_cases hlt : i < ts.length
  · refine .inr ⟨⟨sV ts, (sV ts)[i]'(by omega), hq, by simp [hVl, hlt]⟩, fun H2 => (i + 1 ≤ ts.length ∧ Ex H1 H2 ∧ H2 Dl = some (.lst (sV ((ts.take (i + 1)).flatMap fun t => l.map fun c => t ++ [c])))), fun H2 ⟨a1, a2, a3⟩ => ⟨ts.length - (i + 1), by omega, rfl, a1, a2, a3⟩, fun x H2 hy => ?_⟩
    obtain ⟨eq1, hy⟩ := hy
    subst eq1
    have hx2 := hy _ hq
    obtain ⟨t, ht, rfl⟩ : ∃ t, ts[i]? = some t ∧ x = .str (S t) := by
      have h2 : (ts.map fun s => V.str (S s))[i]? = some x := hx2
      rw [List.getElem?_map] at h2
      cases z : ts[i]? with
      | none => rw [z] at h2; cases h2
      | some s => rw [z] at h2; exact ⟨s, rfl, (Option.some.inj h2).symm⟩
    refine ⟨hw _, ?_⟩
    unfold tYes
    dsimp only
    rw [if_pos rfl]
    refine hin _ H2 (e01.trans p1) H2 (Ex.refl _) _ fun H3 e3 => ⟨S l, rfl, ?_⟩
    have hsz : (S l).cps.size = l.length := by simp
    refine ⟨fun n m H' => m = l.length - n ∧ n ≤ l.length ∧ Ex H1 H' ∧ H' Dl = some (.lst (sV (((ts.take i).flatMap fun t => l.map fun c => t ++ [c]) ++ (l.take n).map fun c => t ++ [c]))), ⟨l.length, by simp, Nat.zero_le _, p1.trans e3, by rw [List.take_zero, List.map_nil, List.append_nil]; exact e3 _ _ p2⟩, ?_⟩
    rintro n m H4 ⟨rfl, hn, r1, r2⟩
    by_cases hnl : n < l.length
    · refine .inr ⟨by rw [← hsz] at hnl; exact hnl, fun H5 => (n + 1 ≤ l.length ∧ Ex H1 H5 ∧ H5 Dl = some (.lst (sV (((ts.take i).flatMap fun t => l.map fun c => t ++ [c]) ++ (l.take (n + 1)).map fun c => t ++ [c])))), fun H5 ⟨a1, a2, a3⟩ => ⟨l.length - (n + 1), by omega, rfl, a1, a2, a3⟩, fun x H5 hy => ?_⟩
      obtain ⟨eq2, c, hc, rfl⟩ := hy
      subst eq2
      have hc2 : l[n]? = some c := by simpa using hc
      refine ⟨hw1 _ _, ?_⟩
      dsimp only
      rw [if_pos rfl]
      refine he t c H5 (e01.trans r1) (List.mem_of_getElem? ht) _ (Ex.refl _) _ fun H6 e6 => ⟨_, e6 _ _ r2, ?_, hnl, Ex.mut (r1.trans e6) hD, ?_⟩
      · have := flen i
        show (List.map _ _).length < sizeLine
        rw [List.length_map, List.length_append, List.length_map, List.length_take, sizeLine_eq]
        omega
      · rw [upd_same, List.take_add_one, hc2]
        simp [sV, List.map_append]
    · have en : n = l.length := by omega
      subst en
      refine .inl ⟨(show (S l).cps.size ≤ l.length by rw [hsz]; exact Nat.le_refl _), hlt, r1, ?_⟩
      rw [r2, List.take_length, List.take_add_one, ht, List.flatMap_append]
      simp
  · have en : i = ts.length := by omega
    subst en
    refine .inl ⟨⟨sV ts, hq, by rw [hVl]; exact Nat.le_refl _⟩, ?_⟩
    rw [List.take_length] at p2
    exact q Dl H' (fresh_back e1 hD) (e1.trans p1) p2⟩
theorem q_lst8 {i : Nat} {xs : List V} (h : EvL te σ H xs) (k : ∀ p H1, H p = none → Ex H H1 → H1 p = some (.lst xs) → D.nx (σ.set i (some (.ref p))) H1) : tAsg te (gName i) D σ H := h H (Ex.refl H) _ k
theorem s_extV {l b : Addr} {xs ys : List V} (hl : H l = some (.lst xs)) (ha : Ev ta σ H (.ref l)) (hb : Ev te σ H (.ref b)) (hy : H b = some (.lst ys)) (hz : xs.length + ys.length ≤ 100000) (k : ∀ H1, Ex H H1 → D.nx σ (upd H1 l (.lst (xs ++ ys)))) : tDrop (tBM K "list" rExtend ta (tCons te tNil)) D σ H := ha H (Ex.refl H) _ fun H1 e1 =>
  ⟨Or.inl ⟨rfl, xs, sq_of (e1 l _ hl)⟩, hb H1 e1 _ fun H2 e2 => ⟨l, b, xs, ys, rfl, rfl, e2 l _ (e1 l _ hl), e2 _ _ (e1 _ _ hy), Nat.le_trans hz (by decide), k H2 (e1.trans e2)⟩⟩
end
theorem Sn_big {s : Nat} (h1 : 1 ≤ s) (d : Nat) : s ^ d ≤ Sn s d + 1 := by
  cases d with
  | zero => exact Nat.le_refl _
  | succ d => show s ^ (d + 1) ≤ Sn s d + s ^ (d + 1) + 1; omega
theorem Sn_up {s : Nat} (h1 : 1 ≤ s) : ∀ d, d ≤ Sn s d
  | 0 => Nat.le_refl _
  | d + 1 => by
    have := Sn_up h1 d
    have := Nat.one_le_pow (d + 1) s h1
    show d + 1 ≤ Sn s d + s ^ (d + 1)
    omega
section
variable {P : Program} {w : World} {K : PySem.W.Frag} {mg : Str → Option Value} {base : Heap}
abbrev s_first_texts : Stmt := top 21
abbrev N_first_texts : List Str := ["alphabet", "many", "texts", "level", "letter", "text"]
theorem sc_first_texts : FnScope N_first_texts ["alphabet", "many"] (defScope s_first_texts) := ⟨rfl, rfl, rfl, by decide +kernel, rfl, by decide +kernel, by decide +kernel⟩
def spFi : Sp := fun vs H Q _ => ∃ (l : List Nat) (M : Nat), vs = [.str (S l), .int (M : Int)] ∧ 1 ≤ l.length ∧ l.length ≤ 6 ∧ M ≤ 600 ∧ RetL (sV (tsF l M)) H Q
theorem ok_first_texts (T : TT mg) (F : At K mg "first_texts" s_first_texts) : Dn P w K mg base 1 "first_texts" s_first_texts ["alphabet", "many"] spFi := by
  refine dn_ok F sc_first_texts (fun _ _ _ _ _ _ us hl => match us, hl with | [_, _], _ => rfl) (fun vs H Q E h => ?_) (fun f cdv A outer t H vs Q E hr h => ?_)
  · obtain ⟨l, M, rfl, _⟩ := h; rfl
  · obtain ⟨l, M, rfl, h1, h6, hM, q⟩ := h
    refine ⟨_, (pss_cons (ps_set (i := 2) sc_first_texts.nd rfl (Or.inl rfl) (pe_lst pa_nil))
      (pss_cons (ps_set (i := 3) sc_first_texts.nd rfl (Or.inl rfl) (pe_lst (pa_cons pe_str pa_nil)))
      (pss_cons (ps_while PassesOwn.never (pt_cmpR op_lt (pe_callB call_len_seq (by rfl) T.len boot_len (pa_cons (pv 2) pa_nil)) (pv 1) (nomark _))
        (pss_cons (ps_setLc2 (i := 3) (own := [("text", 5), ("letter", 4)]) (vs1 := [4]) (g := gName 5) (g1 := gName 4) (tt := tYes) (tt1 := tYes) rfl sc_first_texts.nd rfl rfl (sw_true rfl rfl rfl (by decide +kernel)) (pi_list (pv 3)) (blkOk_by (own := [("text", 5), ("letter", 4)]) (N := N_first_texts) (sc := defScope s_first_texts) (by decide +kernel)) (by decide) (fun _ _ _ _ _ => pg_name (i := 5) sc_first_texts.nd rfl (Or.inl rfl)) (fun _ _ _ _ _ => pts_nil) (fun _ _ _ _ _ => pi_str (pv 0)) (fun _ _ _ _ _ => pg_name (i := 4) sc_first_texts.nd rfl (Or.inl rfl)) (fun _ _ _ _ _ => pts_nil) (fun _ _ _ _ _ => (pe_op op_add_str (pv 5) (pv 4))))
          (pss_one (ps_expr (pe_bm PySem.F.plainAttrs_list PySem.F.slot_list_extend PySem.F.type_list_extend mt_extend (pv 2) (pa_cons (pv 3) pa_nil))))))
      (pss_one (ps_ret (pe_slice sl_list (pv 2) po_none (po_some (pv 1)))))))), ?_⟩
    refine q_asgL (xs := sV (tsF l (Sn l.length 0))) (el_lst ea_nil (Nat.zero_le _)) fun p H1 np e1 hp => ?_
    refine q_asgL (xs := sV (lvF l 0)) (by
      have : lvF l 0 = [[]] := by unfold lvF; rw [Nat.pow_zero]; show [wdF l (0 + 0)] = _; rw [Nat.zero_add, wd_zero]
      rw [this]
      exact el_lst (ea_cons ev_c ea_nil) (by show 1 ≤ 100000; decide)) fun p3 H2 np3 e2 hp3 => ?_
    refine q_while (fun m σ H' => ∃ (d : Nat) (p3 : Addr) (x y : Option V), m = 700 - d ∧ d ≤ M ∧ σ = [some (.str (S l)), some (.int (M : Int)), some (.ref p), some (.ref p3), x, y] ∧ Ex H H' ∧ H' p = some (.lst (sV (tsF l (Sn l.length d)))) ∧ H' p3 = some (.lst (sV (lvF l d))) ∧ p3 ≠ p)
      700 ⟨0, p3, none, none, rfl, Nat.zero_le _, rfl, e1.trans e2, e2 _ _ hp, hp3, fun z => by rw [z, hp] at np3; cases np3⟩ ?_
    rintro m σ' H' ⟨d, p3, x, y, rfl, hd, rfl, e, hp', hp3', hne⟩
    have hlen : (sV (tsF l (Sn l.length d))).length = Sn l.length d := by show (List.map _ _).length = _; rw [List.length_map, ts_len]
    refine ⟨_, et_test (ev_op (ev_is (ev_len (K := K) (ev_var rfl) (sq_of hp')) (congrArg V.int (by rw [hlen]))) (ev_var rfl) rv_I0), fun hb H3 e3 => ?_, fun hb H3 e3 => ?_⟩
    · have hlt : Sn l.length d < M := by have := of_decide_eq_true hb; omega
      have hup := Sn_up h1 d
      have hbig := Sn_big h1 d
      have hlv : (lvF l d).length = l.length ^ d := by unfold lvF; rw [List.length_map, List.length_range]
      refine ⟨fun σ2 H2 => ∃ m', m' < 700 - d ∧ ∃ (d : Nat) (p3 : Addr) (x y : Option V), m' = 700 - d ∧ d ≤ M ∧ σ2 = [some (.str (S l)), some (.int (M : Int)), some (.ref p), some (.ref p3), x, y] ∧ Ex H H2 ∧ H2 p = some (.lst (sV (tsF l (Sn l.length d)))) ∧ H2 p3 = some (.lst (sV (lvF l d))) ∧ p3 ≠ p, fun σ2 H2 h => h, ?_⟩
      refine q_asgL (xs := sV (lvF l (d + 1))) (by
        rw [lv_step]
        exact el_lc2 (K := K) (ev_var rfl) (sq_of (e3 _ _ hp3')) (by omega) h6 (fun _ => rfl) (fun _ _ => rfl) (fun _ _ _ => ev_var rfl) fun t c H4 e4 ht => ev_op (ev_var rfl) (ev_var rfl) (rv_addS (by
          obtain ⟨i, hi, rfl⟩ := List.mem_map.mp ht
          have hl9 : ∀ n, (wdF l n).length ≤ n := by
            intro n
            induction n using Nat.strongRecOn with
            | _ n ih =>
              cases n with
              | zero => rw [wd_zero]; exact Nat.le_refl _
              | succ n =>
                rw [wd_succ, List.length_append]
                have := ih _ (Nat.lt_succ_of_le (Nat.div_le_self n l.length))
                have := Nat.div_le_self n l.length
                show _ + 1 ≤ n + 1
                omega
          have hi := List.mem_range.mp hi
          have := hl9 (ofF l.length d + i)
          have hof : ofF l.length d ≤ Sn l.length d + 1 := by
            cases d with
            | zero => exact Nat.zero_le _
            | succ d => show Sn l.length d + 1 ≤ Sn l.length d + l.length ^ (d + 1) + 1; omega
          show _ + 1 ≤ _
          omega))) fun p4 H4 np4 e4 hp4 => ?_
      have hp4' := e4 _ _ (e3 _ _ hp')
      have hl1 : (lvF l (d + 1)).length = l.length ^ (d + 1) := by unfold lvF; rw [List.length_map, List.length_range]
      have hl2 : l.length ^ (d + 1) ≤ 6 * 601 := by
        rw [Nat.pow_succ, Nat.mul_comm]
        exact Nat.mul_le_mul h6 (by omega)
      have hl3 : (sV (lvF l (d + 1))).length = l.length ^ (d + 1) := by show (List.map _ _).length = _; rw [List.length_map, hl1]
      have n4 : p4 ≠ p := fun z => by rw [z, e3 _ _ hp'] at np4; cases np4
      refine s_extV (K := K) hp4' (ev_var rfl) (ev_var rfl) hp4 (by omega) fun H5 e5 => ⟨700 - (d + 1), by omega, d + 1, p4, _, _, rfl, by omega, rfl, Ex.mut (((e.trans e3).trans e4).trans e5) np, ?_, ?_, n4⟩
      · rw [upd_same, ts_step]
        simp [sV, List.map_append]
      · rw [upd_ne n4]
        exact e5 _ _ hp4
    · have hge : M ≤ Sn l.length d := by have := of_decide_eq_false hb; omega
      refine s_retL (xs := sV (tsF l M)) (by
        have h5 := el_sl (K := K) (H := H3) (te := tVar 2) (σ := [some (.str (S l)), some (.int (M : Int)), some (.ref p), some (.ref p3), x, y]) (tl := tNoPart) (th := tPart (tVar 1)) (a := p) (xs := sV (tsF l (Sn l.length d))) (ev_var rfl) eo_none (eo_some (ev_var rfl)) (sq_of (e3 _ _ hp'))
        rw [cutV_L] at h5
        have h6 : cutL (sV (tsF l (Sn l.length d))) none (some (M : Int)) = sV (tsF l M) := by
          rw [cutL_to (by omega), Int.toNat_natCast]
          show (List.map _ _).take M = _
          rw [← List.map_take, ts_take hge]
        rw [h6] at h5
        exact h5) fun pp H4 npp e4 h4 => q pp H4 (fresh_back (e.trans e3) npp) ((e.trans e3).trans e4) h4
end
end My

set_option Elab.async false
set_option linter.all false
set_option maxRecDepth 100000
set_option maxHeartbeats 4000000
namespace My
open PySem PySem.Spec PyProof.Rows L2 Evl
open SX (S S_len S_cat S_beq S_beq_eq S_inj S_tl)
/-! ### rows of stretches -/
abbrev Parts := List (Int × Int)
def seg (line : List Nat) (p : Int × Int) : List Nat := cutL line (some p.1) (some p.2)
def stP (line : List Nat) (s : Option (Int × List (List Nat))) (p : Int × Int) : Option (Int × List (List Nat)) :=
  match s with
  | none => none
  | some (le, ws) => if (le ≤ p.1 ∧ p.1 < p.2 ∧ p.2 ≤ (line.length : Int)) ∧ seg line p ∉ ws then some (p.2, seg line p :: ws) else none
def stF (line : List Nat) (row : Parts) : Option (Int × List (List Nat)) := row.foldl (stP line) (some (0, []))
def goodF (line : List Nat) (row : Parts) : Bool := (stF line row).isSome
theorem st_none (line : List Nat) : ∀ row : Parts, row.foldl (stP line) none = none
  | [] => rfl
  | _ :: r => st_none line r
theorem stF_app (line : List Nat) (r1 r2 : Parts) : stF line (r1 ++ r2) = r2.foldl (stP line) (stF line r1) := List.foldl_append
theorem stF_take {line : List Nat} {row : Parts} {i : Nat} (h : i < row.length) : stF line (row.take (i + 1)) = stP line (stF line (row.take i)) (row.getD i (0, 0)) := by
  rw [List.take_succ_eq_append_getElem h, stF_app, List.getD_eq_getElem?_getD, List.getElem?_eq_getElem h]
  rfl
theorem bad_take {line : List Nat} {row : Parts} {i : Nat} (h : stF line (row.take i) = none) : goodF line row = false := by
  unfold goodF
  have e : stF line row = (row.drop i).foldl (stP line) (stF line (row.take i)) := by rw [← stF_app, List.take_append_drop]
  rw [e, h, st_none]
  rfl
theorem good_end {line : List Nat} {row : Parts} {s : Int × List (List Nat)} (h : stF line (row.take row.length) = some s) : goodF line row = true := by
  unfold goodF
  rw [List.take_length] at h
  rw [h]
  rfl
theorem stP_yes {line : List Nat} {le : Int} {ws : List (List Nat)} {p : Int × Int} (h : le ≤ p.1 ∧ p.1 < p.2 ∧ p.2 ≤ (line.length : Int)) (hw : seg line p ∉ ws) : stP line (some (le, ws)) p = some (p.2, seg line p :: ws) := if_pos ⟨h, hw⟩
theorem stP_no1 {line : List Nat} {le : Int} {ws : List (List Nat)} {p : Int × Int} (h : ¬ (le ≤ p.1 ∧ p.1 < p.2 ∧ p.2 ≤ (line.length : Int))) : stP line (some (le, ws)) p = none := if_neg fun c => h c.1
theorem stP_no2 {line : List Nat} {le : Int} {ws : List (List Nat)} {p : Int × Int} (h : seg line p ∈ ws) : stP line (some (le, ws)) p = none := if_neg fun c => c.2 h
/-! a row of objects -/
def pV (p : Int × Int) : List V := [.int p.1, .int p.2]
def Row (o i : List V → HO) (H : Hp) (p : Addr) (row : Parts) : Prop := ∃ ps : List Addr, H p = some (o (ps.map V.ref)) ∧ ps.length = row.length ∧ ∀ k, k < row.length → H (ps.getD k 0) = some (i (pV (row.getD k (0, 0))))
theorem Row.ex {o i : List V → HO} {H H' : Hp} {p : Addr} {row : Parts} (h : Row o i H p row) (e : Ex H H') : Row o i H' p row := by
  obtain ⟨ps, a, b, c⟩ := h
  exact ⟨ps, e _ _ a, b, fun k hk => e _ _ (c k hk)⟩
abbrev RowT := Row .lst .tup
abbrev RowL := Row .lst .lst
abbrev RowU := Row .tup .tup
theorem ref_at {ps : List Addr} {k : Nat} {x : V} (h : (ps.map V.ref)[k]? = some x) : x = .ref (ps.getD k 0) ∧ k < ps.length := by
  rw [List.getElem?_map] at h
  cases e : ps[k]? with
  | none => rw [e] at h; cases h
  | some a =>
    rw [e] at h
    refine ⟨?_, (List.getElem?_eq_some_iff.mp e).1⟩
    rw [List.getD_eq_getElem?_getD, e]
    exact (Option.some.inj h).symm
theorem atI_ref {ps : List Addr} {k : Nat} (h : k < ps.length) : atI (ps.map V.ref) (k : Int) = some (.ref (ps.getD k 0)) := atI_nat (by
  rw [List.getElem?_map, List.getElem?_eq_getElem h, List.getD_eq_getElem?_getD, List.getElem?_eq_getElem h]
  rfl)
theorem p0 (p : Int × Int) : atI (pV p) 0 = some (.int p.1) := rfl
theorem p1 (p : Int × Int) : atI (pV p) 1 = some (.int p.2) := rfl
end My

set_option Elab.async false
set_option linter.all false
set_option maxRecDepth 100000
set_option maxHeartbeats 4000000
namespace My
open PySem PySem.Spec PyProof.Rows L2 Evl
open SX (S S_len S_cat S_beq S_beq_eq S_inj S_tl)
/-- a row and its places -/
def RowX (H : Hp) (p : Addr) (row : Parts) (ps : List Addr) : Prop := H p = some (.lst (ps.map V.ref)) ∧ ps.length = row.length ∧ ∀ k, k < row.length → H (ps.getD k 0) = some (.tup (pV (row.getD k (0, 0))))
theorem RowX.row {H : Hp} {p : Addr} {row : Parts} {ps : List Addr} (h : RowX H p row ps) : RowT H p row := ⟨ps, h⟩
theorem RowX.ex {H H' : Hp} {p : Addr} {row : Parts} {ps : List Addr} (h : RowX H p row ps) (e : Ex H H') : RowX H' p row ps := ⟨e _ _ h.1, h.2.1, fun k hk => e _ _ (h.2.2 k hk)⟩
theorem RowX.upd {H : Hp} {p d : Addr} {row : Parts} {ps : List Addr} {o u : HO} (h : RowX H p row ps) (hd : H d = some u) (h1 : ∀ xs, u ≠ .lst xs) (h2 : ∀ xs, u ≠ .tup xs) : RowX (upd H d o) p row ps :=
  ⟨by rw [upd_ne (ne_of h.1 hd fun c => h1 _ c.symm)]; exact h.1, h.2.1, fun k hk => by rw [upd_ne (ne_of (h.2.2 k hk) hd fun c => h2 _ c.symm)]; exact h.2.2 k hk⟩
theorem getD_snoc {α : Type} (l : List α) (x d : α) (k : Nat) : (l ++ [x]).getD k d = if k < l.length then l.getD k d else if k = l.length then x else d := by
  rw [List.getD_eq_getElem?_getD, List.getD_eq_getElem?_getD]
  by_cases h : k < l.length
  · rw [if_pos h, List.getElem?_append_left h]
  · rw [if_neg h, List.getElem?_append_right (by omega)]
    by_cases e : k = l.length
    · subst e; simp
    · rw [if_neg e, List.getElem?_eq_none (by simp; omega)]; rfl
/-- one more part, at q -/
theorem RowX.app {H : Hp} {p q : Addr} {row : Parts} {ps : List Addr} {pt : Int × Int} (h : RowX H p row ps) (hq : H q = some (.tup (pV pt))) : RowX (L2.upd H p (.lst (ps.map V.ref ++ [.ref q]))) p (row ++ [pt]) (ps ++ [q]) := by
  refine ⟨?_, by rw [List.length_append, List.length_append, h.2.1]; rfl, fun k hk => ?_⟩
  · rw [List.map_append]
    exact upd_same
  · rw [getD_snoc, getD_snoc, h.2.1]
    by_cases c : k < row.length
    · rw [if_pos c, if_pos c, upd_ne (ne_of (h.2.2 k c) h.1 (by intro z; cases z))]
      exact h.2.2 k c
    · have e : k = row.length := by rw [List.length_append] at hk; simp at hk; omega
      rw [if_neg c, if_neg c, if_pos e, if_pos e, upd_ne (ne_of hq h.1 (by intro z; cases z))]
      exact hq
/-- the last part put anew, at q -/
theorem RowX.last {H : Hp} {p q : Addr} {row : Parts} {ps : List Addr} {pt : Int × Int} (h : RowX H p row ps) (hr : row ≠ []) (hq : H q = some (.tup (pV pt))) :
    RowX (L2.upd H p (.lst ((ps.map V.ref).set (row.length - 1) (.ref q)))) p (row.dropLast ++ [pt]) (ps.dropLast ++ [q]) := by
  have hl : 0 < row.length := List.length_pos_iff.mpr hr
  have e : (ps.map V.ref).set (row.length - 1) (.ref q) = (ps.dropLast.map V.ref) ++ [.ref q] := by
    have hp : ps ≠ [] := by intro c; rw [c] at h; have := h.2.1; simp at this; omega
    obtain ⟨qs, y, rfl⟩ : ∃ qs y, ps = qs ++ [y] := ⟨ps.dropLast, ps.getLast hp, (List.dropLast_concat_getLast hp).symm⟩
    have : row.length - 1 = (qs.map V.ref).length := by have := h.2.1; simp at this; rw [List.length_map]; omega
    rw [this, List.map_append, List.dropLast_concat, List.set_append_right _ _ (Nat.le_refl _), Nat.sub_self]
    rfl
  rw [e]
  have h2 : ps.dropLast.length = row.dropLast.length := by rw [List.length_dropLast, List.length_dropLast, h.2.1]
  refine ⟨?_, by rw [List.length_append, List.length_append, h2]; rfl, fun k hk => ?_⟩
  · rw [List.map_append]
    exact upd_same
  · rw [getD_snoc, getD_snoc, h2]
    by_cases c : k < row.dropLast.length
    · have ck : k < row.length := by rw [List.length_dropLast] at c; omega
      have g1 : ps.dropLast.getD k 0 = ps.getD k 0 := by
        rw [List.getD_eq_getElem?_getD, List.getD_eq_getElem?_getD, List.getElem?_dropLast, if_pos (by rw [List.length_dropLast] at c; rw [h.2.1]; omega)]
      have g2 : row.dropLast.getD k (0, 0) = row.getD k (0, 0) := by
        rw [List.getD_eq_getElem?_getD, List.getD_eq_getElem?_getD, List.getElem?_dropLast, if_pos (by rw [List.length_dropLast] at c; omega)]
      rw [if_pos c, if_pos c, g1, g2, upd_ne (ne_of (h.2.2 k ck) h.1 (by intro z; cases z))]
      exact h.2.2 k ck
    · have e : k = row.dropLast.length := by rw [List.length_append] at hk; simp at hk; simp at c; rw [List.length_dropLast]; omega
      rw [if_neg c, if_neg c, if_pos e, if_pos e, upd_ne (ne_of hq h.1 (by intro z; cases z))]
      exact hq
/-! parts in order -/
def InOrd (n : Int) : Int → Parts → Prop
  | _, [] => True
  | lo, p :: r => lo ≤ p.1 ∧ p.1 < p.2 ∧ p.2 ≤ n ∧ InOrd n p.2 r
def endF : Int → Parts → Int
  | lo, [] => lo
  | _, p :: r => endF p.2 r
theorem ord_snoc {n : Int} {pt : Int × Int} : ∀ {lo : Int} {row : Parts}, InOrd n lo (row ++ [pt]) ↔ InOrd n lo row ∧ endF lo row ≤ pt.1 ∧ pt.1 < pt.2 ∧ pt.2 ≤ n
  | lo, [] => by simp [InOrd, endF]
  | lo, p :: r => by
    have ih := @ord_snoc n pt p.2 r
    show (lo ≤ p.1 ∧ p.1 < p.2 ∧ p.2 ≤ n ∧ InOrd n p.2 (r ++ [pt])) ↔ (lo ≤ p.1 ∧ p.1 < p.2 ∧ p.2 ≤ n ∧ InOrd n p.2 r) ∧ endF p.2 r ≤ pt.1 ∧ pt.1 < pt.2 ∧ pt.2 ≤ n
    rw [ih]
    constructor
    · rintro ⟨a, b, c, d, e⟩; exact ⟨⟨a, b, c, d⟩, e⟩
    · rintro ⟨⟨a, b, c, d⟩, e⟩; exact ⟨a, b, c, d, e⟩
theorem end_snoc (pt : Int × Int) : ∀ (lo : Int) (row : Parts), endF lo (row ++ [pt]) = pt.2
  | _, [] => rfl
  | _, p :: r => end_snoc pt p.2 r
theorem ord_at {n : Int} : ∀ {lo : Int} {row : Parts} {i : Nat}, InOrd n lo row → i < row.length → endF lo (row.take i) ≤ (row.getD i (0, 0)).1 ∧ (row.getD i (0, 0)).1 < (row.getD i (0, 0)).2 ∧ (row.getD i (0, 0)).2 ≤ n := by
  intro lo row i h hi
  have e : row = row.take i ++ (row.getD i (0, 0) :: row.drop (i + 1)) := by
    rw [List.getD_eq_getElem?_getD, List.getElem?_eq_getElem hi]
    show row = row.take i ++ (row[i] :: row.drop (i + 1))
    rw [← List.drop_eq_getElem_cons hi, List.take_append_drop]
  have key : ∀ (lo : Int) (r1 r2 : Parts) (pt : Int × Int), InOrd n lo (r1 ++ (pt :: r2)) → endF lo r1 ≤ pt.1 ∧ pt.1 < pt.2 ∧ pt.2 ≤ n := by
    intro lo r1
    induction r1 generalizing lo with
    | nil => intro r2 pt h; exact ⟨h.1, h.2.1, h.2.2.1⟩
    | cons p r ih => intro r2 pt h; exact ih p.2 r2 pt h.2.2.2
  rw [e] at h
  exact key lo _ _ _ h
theorem end_take {row : Parts} {i : Nat} (h : i < row.length) (lo : Int) : endF lo (row.take (i + 1)) = (row.getD i (0, 0)).2 := by
  rw [List.take_succ_eq_append_getElem h, end_snoc, List.getD_eq_getElem?_getD, List.getElem?_eq_getElem h]
  rfl
theorem stF_snoc {line : List Nat} {row : Parts} {pt : Int × Int} {le : Int} {ws : List (List Nat)} (h : stF line row = some (le, ws)) (h1 : le ≤ pt.1) (h2 : pt.1 < pt.2) (h3 : pt.2 ≤ (line.length : Int)) (h4 : seg line pt ∉ ws) : stF line (row ++ [pt]) = some (pt.2, seg line pt :: ws) := by
  rw [stF_app, h]
  exact stP_yes ⟨h1, h2, h3⟩ h4
theorem good_of {line : List Nat} {row : Parts} {s : Int × List (List Nat)} (h : stF line row = some s) : goodF line row = true := by
  unfold goodF
  rw [h]
  rfl
/-- xs[i] = (.., ..) -/
theorem s_setLU {σ : L2.St} {H : Hp} {ta tb te : TE} {D : Ends} {l : Addr} {xs ys : List V} {i : Int} {j : Nat} (hl : H l = some (.lst xs)) (h : EvU te σ H ys) (ho : Ev ta σ H (.ref l)) (hi : Ev tb σ H (.int i)) (hj : ixN xs.length i = some j) (k : ∀ p H1, H p = none → Ex H H1 → H1 p = some (.tup ys) → D.nx σ (upd H1 l (.lst (xs.set j (.ref p))))) :
    tAsg te (gSub ta tb rSetL) D σ H := h H (Ex.refl H) _ fun p H1 hp e1 h1 => ho H1 e1 _ fun H2 e2 => hi H2 (e1.trans e2) _ fun H3 e3 =>
  ⟨l, xs, i, j, rfl, rfl, ((e1.trans e2).trans e3) l _ hl, hj, k p H3 hp ((e1.trans e2).trans e3) (e3 _ _ (e2 _ _ h1))⟩
end My

set_option Elab.async false
set_option linter.all false
set_option maxRecDepth 100000
set_option maxHeartbeats 4000000
namespace My
open PySem PySem.Spec PyProof.Rows L2 Evl
open SX (S S_len S_cat S_beq S_beq_eq S_inj S_tl)
/-! ### places and parts, side by side -/
def Pl (i : List V → HO) (H : Hp) : List Addr → Parts → Prop
  | [], [] => True
  | a :: as, p :: r => H a = some (i (pV p)) ∧ Pl i H as r
  | _, _ => False
theorem Pl.ex {i : List V → HO} {H H' : Hp} (e : Ex H H') : ∀ {as : List Addr} {r : Parts}, Pl i H as r → Pl i H' as r
  | [], [], _ => trivial
  | _ :: _, _ :: _, h => ⟨e _ _ h.1, Pl.ex e h.2⟩
  | [], _ :: _, h => h.elim
  | _ :: _, [], h => h.elim
theorem Pl.len {i : List V → HO} {H : Hp} : ∀ {as : List Addr} {r : Parts}, Pl i H as r → as.length = r.length
  | [], [], _ => rfl
  | _ :: _, _ :: _, h => congrArg (· + 1) (Pl.len h.2)
  | [], _ :: _, h => h.elim
  | _ :: _, [], h => h.elim
theorem Pl.app {i : List V → HO} {H : Hp} : ∀ {as bs : List Addr} {r s : Parts}, Pl i H as r → Pl i H bs s → Pl i H (as ++ bs) (r ++ s)
  | [], _, [], _, _, h => h
  | _ :: _, _, _ :: _, _, h, g => ⟨h.1, Pl.app h.2 g⟩
  | [], _, _ :: _, _, h, _ => h.elim
  | _ :: _, _, [], _, h, _ => h.elim
theorem Pl.take {i : List V → HO} {H : Hp} : ∀ {as : List Addr} {r : Parts} (n : Nat), Pl i H as r → Pl i H (as.take n) (r.take n)
  | [], [], n, _ => by rw [List.take_nil, List.take_nil]; trivial
  | _ :: _, _ :: _, 0, _ => trivial
  | _ :: _, _ :: _, n + 1, h => ⟨h.1, Pl.take n h.2⟩
  | [], _ :: _, _, h => h.elim
  | _ :: _, [], _, h => h.elim
theorem Pl.drop {i : List V → HO} {H : Hp} : ∀ {as : List Addr} {r : Parts} (n : Nat), Pl i H as r → Pl i H (as.drop n) (r.drop n)
  | [], [], n, _ => by rw [List.drop_nil, List.drop_nil]; trivial
  | _ :: _, _ :: _, 0, h => h
  | _ :: _, _ :: _, n + 1, h => Pl.drop n h.2
  | [], _ :: _, _, h => h.elim
  | _ :: _, [], _, h => h.elim
theorem Pl.of {i : List V → HO} {H : Hp} : ∀ {ps : List Addr} {row : Parts}, ps.length = row.length → (∀ k, k < row.length → H (ps.getD k 0) = some (i (pV (row.getD k (0, 0))))) → Pl i H ps row
  | [], [], _, _ => trivial
  | a :: as, p :: r, hl, h => ⟨h 0 (Nat.succ_pos _), Pl.of (Nat.succ.inj hl) fun k hk => h (k + 1) (Nat.succ_lt_succ hk)⟩
  | [], _ :: _, hl, _ => by cases hl
  | _ :: _, [], hl, _ => by cases hl
theorem Pl.get {i : List V → HO} {H : Hp} : ∀ {ps : List Addr} {row : Parts}, Pl i H ps row → ∀ k, k < row.length → H (ps.getD k 0) = some (i (pV (row.getD k (0, 0))))
  | [], [], _, k, hk => absurd hk (Nat.not_lt_zero k)
  | _ :: _, _ :: _, h, 0, _ => h.1
  | _ :: _, _ :: _, h, k + 1, hk => Pl.get h.2 k (Nat.lt_of_succ_lt_succ hk)
  | [], _ :: _, h, _, _ => h.elim
  | _ :: _, [], h, _, _ => h.elim
theorem Row.of {o i : List V → HO} {H : Hp} {p : Addr} {ps : List Addr} {row : Parts} (h : H p = some (o (ps.map V.ref))) (g : Pl i H ps row) : Row o i H p row := ⟨ps, h, g.len, g.get⟩
theorem Row.pl {o i : List V → HO} {H : Hp} {p : Addr} {row : Parts} (h : Row o i H p row) : ∃ ps, H p = some (o (ps.map V.ref)) ∧ Pl i H ps row := by
  obtain ⟨ps, a, b, c⟩ := h
  exact ⟨ps, a, Pl.of b c⟩
theorem Pl.cut {i : List V → HO} {H : Hp} {as : List Addr} {r : Parts} (h : Pl i H as r) (lo hi : Option Int) : Pl i H (cutL as lo hi) (cutL r lo hi) := by
  unfold cutL
  rw [h.len]
  exact (h.drop _).take _
/-! ### what evaluates to a new row -/
def ER (te : TE) (σ : L2.St) (H : Hp) (G : Parts → Prop) : Prop := ∀ H1, Ex H H1 → ∀ Q : VK, (∀ p H2 row, H1 p = none → Ex H1 H2 → RowT H2 p row → G row → Q (.ref p) H2) → te σ H1 Q
section
variable {K : PySem.W.Frag} {σ : L2.St} {H : Hp} {ta tb tc te : TE} {x y v : V} {D : Ends} {tu tz : TS} {tl th : TO}
theorem er_slice {p : Addr} {row : Parts} {lo hi : Option Int} (h : Ev te σ H (.ref p)) (h1 : EvO tl σ H lo) (h2 : EvO th σ H hi) (hR : RowT H p row) : ER (tSl (rSlL K) te tl th) σ H (fun r => r = cutL row lo hi) := fun H0 e0 Q q => by
  obtain ⟨ps, hp, hg⟩ := hR.pl
  have := el_sl (K := K) h h1 h2 (sq_of hp)
  rw [cutV_L, cutL_map] at this
  refine this H0 e0 Q fun a H2 ha e2 h2' => q a H2 (cutL row lo hi) ha e2 ?_ rfl
  exact Row.of h2' ((hg.ex (e0.trans e2)).cut lo hi)
theorem er_one {i j : Int} (ha : Ev ta σ H (.int i)) (hb : ∀ H1, Ex H H1 → Ev tb σ H1 (.int j)) : ER (tLst (tCons (tTup (tCons ta (tCons tb tNil))) tNil)) σ H (fun r => r = [(i, j)]) := fun H0 e0 Q q => by
  show tTup (tCons ta (tCons tb tNil)) σ H0 (fun x H1 => [x].length ≤ sizeLine ∧ ∀ p, H1 p = none → Q (.ref p) (upd H1 p (.lst [x])))
  refine eu_tup (σ := σ) (H := H) (vs := [.int i, .int j]) (ea_cons ha (ea_cons (hb H (Ex.refl H)) ea_nil)) (by show 2 ≤ 100000; decide) H0 e0 _ fun t H1 nt e1 h1 => ?_
  refine ⟨by show 1 ≤ sizeLine; decide, fun l hl => q l _ [(i, j)] (fresh_back e1 hl) (e1.trans (Ex.new hl)) ?_ rfl⟩
  exact Row.of (ps := [t]) upd_same ⟨(Ex.new hl) _ _ h1, trivial⟩
theorem er_two {a b : Addr} {p1 p2 : Int × Int} (ha : Ev ta σ H (.ref a)) (hb : Ev tb σ H (.ref b)) (h1 : H a = some (.tup (pV p1))) (h2 : H b = some (.tup (pV p2))) : ER (tLst (tCons ta (tCons tb tNil))) σ H (fun r => r = [p1, p2]) := fun H0 e0 Q q =>
  el_lst (ea_cons ha (ea_cons hb ea_nil)) (by show 2 ≤ 100000; decide) H0 e0 Q fun l H2 nl e2 hl => q l H2 [p1, p2] nl e2 (Row.of (ps := [a, b]) hl ⟨(e0.trans e2) _ _ h1, (e0.trans e2) _ _ h2, trivial⟩) rfl
theorem er_cat {G1 G2 : Parts → Prop} {n : Nat} (ha : ER ta σ H G1) (hb : ∀ H1, Ex H H1 → ER tb σ H1 G2) (hz : ∀ r s, G1 r → G2 s → r.length + s.length ≤ 100000) : ER (tOp rCat ta tb) σ H (fun r => ∃ a b, G1 a ∧ G2 b ∧ r = a ++ b) := fun H0 e0 Q q =>
  ha H0 e0 _ fun p H1 r hp e1 h1 g1 => hb H1 (e0.trans e1) H1 (Ex.refl H1) _ fun p2 H2 s hp2 e2 h2 g2 => by
    obtain ⟨as, h1p, l1⟩ := (h1.ex e2).pl
    obtain ⟨bs, h2p, l2⟩ := h2.pl
    refine ⟨p, p2, _, _, rfl, rfl, h1p, h2p, by rw [List.length_map, List.length_map, l1.len, l2.len]; exact sz_of (hz r s g1 g2), fun l hl => q l _ (r ++ s) (fresh_back (e1.trans e2) hl) ((e1.trans e2).trans (Ex.new hl)) ?_ ⟨r, s, g1, g2, rfl⟩⟩
    refine Row.of (ps := as ++ bs) (by rw [List.map_append]; exact upd_same) (Pl.ex (Ex.new hl) (l1.app l2))
/-- a row that stands, as the left one -/
theorem er_catV {G2 : Parts → Prop} {p : Addr} {row : Parts} (ha : Ev ta σ H (.ref p)) (hR : RowT H p row) (hb : ∀ H1, Ex H H1 → ER tb σ H1 G2) (hz : ∀ s, G2 s → row.length + s.length ≤ 100000) : ER (tOp rCat ta tb) σ H (fun r => ∃ b, G2 b ∧ r = row ++ b) := fun H0 e0 Q q =>
  ha H0 e0 _ fun H1 e1 => hb H1 (e0.trans e1) H1 (Ex.refl H1) _ fun p2 H2 s hp2 e2 h2 g2 => by
    obtain ⟨as, h1p, l1⟩ := (hR.ex ((e0.trans e1).trans e2)).pl
    obtain ⟨bs, h2p, l2⟩ := h2.pl
    refine ⟨p, p2, _, _, rfl, rfl, h1p, h2p, by rw [List.length_map, List.length_map, l1.len, l2.len]; exact sz_of (hz s g2), fun l hl => q l _ (row ++ s) (fresh_back (e1.trans e2) hl) ((e1.trans e2).trans (Ex.new hl)) ?_ ⟨s, g2, rfl⟩⟩
    refine Row.of (ps := as ++ bs) (by rw [List.map_append]; exact upd_same) (Pl.ex (Ex.new hl) (l1.app l2))
/-- both stand -/
theorem er_catVV {p p2 : Addr} {row row2 : Parts} (ha : Ev ta σ H (.ref p)) (hR : RowT H p row) (hb : Ev tb σ H (.ref p2)) (hR2 : RowT H p2 row2) (hz : row.length + row2.length ≤ 100000) : ER (tOp rCat ta tb) σ H (fun r => r = row ++ row2) := fun H0 e0 Q q =>
  ha H0 e0 _ fun H1 e1 => hb H1 (e0.trans e1) _ fun H2 e2 => by
    obtain ⟨as, h1p, l1⟩ := (hR.ex ((e0.trans e1).trans e2)).pl
    obtain ⟨bs, h2p, l2⟩ := (hR2.ex ((e0.trans e1).trans e2)).pl
    refine ⟨p, p2, _, _, rfl, rfl, h1p, h2p, by rw [List.length_map, List.length_map, l1.len, l2.len]; exact sz_of hz, fun l hl => q l _ (row ++ row2) (fresh_back (e1.trans e2) hl) ((e1.trans e2).trans (Ex.new hl)) ?_ rfl⟩
    refine Row.of (ps := as ++ bs) (by rw [List.map_append]; exact upd_same) (Pl.ex (Ex.new hl) (l1.app l2))
theorem er_catR {G1 : Parts → Prop} {p2 : Addr} {row2 : Parts} (ha : ER ta σ H G1) (hb : Ev tb σ H (.ref p2)) (hR2 : RowT H p2 row2) (hz : ∀ r, G1 r → r.length + row2.length ≤ 100000) : ER (tOp rCat ta tb) σ H (fun r => ∃ a, G1 a ∧ r = a ++ row2) := fun H0 e0 Q q =>
  ha H0 e0 _ fun p H1 r hp e1 h1 g1 => hb H1 (e0.trans e1) _ fun H2 e2 => by
    obtain ⟨as, h1p, l1⟩ := (h1.ex e2).pl
    obtain ⟨bs, h2p, l2⟩ := (hR2.ex ((e0.trans e1).trans e2)).pl
    refine ⟨p, p2, _, _, rfl, rfl, h1p, h2p, by rw [List.length_map, List.length_map, l1.len, l2.len]; exact sz_of (hz r g1), fun l hl => q l _ (r ++ row2) (fresh_back (e1.trans e2) hl) ((e1.trans e2).trans (Ex.new hl)) ?_ ⟨r, g1, rfl⟩⟩
    refine Row.of (ps := as ++ bs) (by rw [List.map_append]; exact upd_same) (Pl.ex (Ex.new hl) (l1.app l2))
theorem ER.mono {G G' : Parts → Prop} (h : ER te σ H G) (k : ∀ r, G r → G' r) : ER te σ H G' := fun H1 e1 Q q => h H1 e1 Q fun p H2 row hp e2 hR g => q p H2 row hp e2 hR (k row g)
theorem s_retR {G : Parts → Prop} (h : ER te σ H G) (k : ∀ p H1 row, H p = none → Ex H H1 → RowT H1 p row → G row → D.rt (.ref p) H1) : tRet te D σ H := h H (Ex.refl H) _ fun p H1 row hp e hR g => k p H1 row hp e hR g
theorem q_asgR {G : Parts → Prop} {i : Nat} (h : ER te σ H G) (k : ∀ p H1 row, H p = none → Ex H H1 → RowT H1 p row → G row → tz D (σ.set i (some (.ref p))) H1) : tSeq (tAsg te (gName i)) tz D σ H := h H (Ex.refl H) _ fun p H1 row hp e hR g => k p H1 row hp e hR g
/-- a part of a row -/
theorem ev_part {p : Addr} {row : Parts} {k : Nat} {i : Int} (hR : RowT H p row) (hi : ixN row.length i = some k) (ha : Ev ta σ H (.ref p)) (hb : Ev tb σ H (.int i)) : ∃ q, H q = some (.tup (pV (row.getD k (0, 0)))) ∧ Ev (tOp (rIxL K) ta tb) σ H (.ref q) := by
  obtain ⟨ps, hp, hl, hg⟩ := hR
  have hk : k < row.length := (ixN_seq hi).2.1
  refine ⟨ps.getD k 0, hg k hk, ev_op ha hb (rv_ixL (K := K) (sq_of hp) ?_)⟩
  unfold atI
  rw [List.length_map, hl, hi]
  show (ps.map V.ref)[k]? = _
  rw [List.getElem?_map, List.getD_eq_getElem?_getD, List.getElem?_eq_getElem (by omega)]
  rfl
theorem ev_start {p : Addr} {row : Parts} {k : Nat} {i : Int} (hR : RowT H p row) (hi : ixN row.length i = some k) (ha : Ev ta σ H (.ref p)) (hb : Ev tb σ H (.int i)) : Ev (tOp (rIxT K) (tOp (rIxL K) ta tb) (tC (.int 0))) σ H (.int (row.getD k (0, 0)).1) := by
  obtain ⟨q, hq, h⟩ := ev_part (K := K) hR hi ha hb
  exact ev_op h ev_c (rv_ixT (K := K) (st_of hq) (p0 _))
theorem ev_stop {p : Addr} {row : Parts} {k : Nat} {i : Int} (hR : RowT H p row) (hi : ixN row.length i = some k) (ha : Ev ta σ H (.ref p)) (hb : Ev tb σ H (.int i)) : Ev (tOp (rIxT K) (tOp (rIxL K) ta tb) (tC (.int 1))) σ H (.int (row.getD k (0, 0)).2) := by
  obtain ⟨q, hq, h⟩ := ev_part (K := K) hR hi ha hb
  exact ev_op h ev_c (rv_ixT (K := K) (st_of hq) (p1 _))
theorem ev_lenR {p : Addr} {row : Parts} (hR : RowT H p row) (ha : Ev ta σ H (.ref p)) : Ev (tCB (rLenS K) (tCons ta tNil)) σ H (.int (row.length : Int)) := by
  obtain ⟨ps, hp, hl, _⟩ := hR
  have := ev_len (K := K) ha (sq_of hp)
  rw [List.length_map, hl] at this
  exact this
theorem er_parts {p : Addr} {row : Parts} {k1 k2 : Nat} {i1 i2 : Int} (hR : RowT H p row) (h1 : ixN row.length i1 = some k1) (h2 : ixN row.length i2 = some k2) (ha : Ev ta σ H (.ref p)) (hb : Ev tb σ H (.int i1)) (hc : Ev tc σ H (.int i2)) :
    ER (tLst (tCons (tOp (rIxL K) ta tb) (tCons (tOp (rIxL K) ta tc) tNil))) σ H (fun r => r = [row.getD k1 (0, 0), row.getD k2 (0, 0)]) := by
  obtain ⟨q1, hq1, hv1⟩ := ev_part (K := K) hR h1 ha hb
  obtain ⟨q2, hq2, hv2⟩ := ev_part (K := K) hR h2 ha hc
  exact er_two hv1 hv2 hq1 hq2
theorem ixN_last {n : Nat} (h : 0 < n) : ixN n (-1) = some (n - 1) := by
  unfold ixN
  rw [if_neg (by decide), if_pos (by omega)]
  congr 1
  omega
end
/-! ### a list of rows -/
def RowsG (H : Hp) (rp : Addr) (n : Nat) (G : Parts → Prop) : Prop := ∃ qs : List Addr, H rp = some (.lst (qs.map V.ref)) ∧ qs.length = n ∧ ∀ q ∈ qs, q ≠ rp ∧ ∃ row, RowT H q row ∧ G row
theorem RowT.upd {H : Hp} {q rp : Addr} {row : Parts} {xs : List V} {o : HO} (h : RowT H q row) (hr : H rp = some (.lst xs)) (hne : q ≠ rp) : RowT (L2.upd H rp o) q row := by
  obtain ⟨ps, a, b, c⟩ := h
  exact ⟨ps, by rw [upd_ne hne]; exact a, b, fun k hk => by rw [upd_ne (ne_of (c k hk) hr (by intro z; cases z))]; exact c k hk⟩
theorem RowsG.ex {H H' : Hp} {rp : Addr} {n : Nat} {G : Parts → Prop} (h : RowsG H rp n G) (e : Ex H H') : RowsG H' rp n G := by
  obtain ⟨qs, a, b, c⟩ := h
  exact ⟨qs, e _ _ a, b, fun q hq => ⟨(c q hq).1, by obtain ⟨row, h1, h2⟩ := (c q hq).2; exact ⟨row, h1.ex e, h2⟩⟩⟩
theorem RowsG.app {H : Hp} {rp p : Addr} {n : Nat} {G : Parts → Prop} {qs : List Addr} {row : Parts} (h1 : H rp = some (.lst (qs.map V.ref))) (h2 : qs.length = n) (h3 : ∀ q ∈ qs, q ≠ rp ∧ ∃ row, RowT H q row ∧ G row) (hp : p ≠ rp) (hR : RowT H p row) (hG : G row) :
    RowsG (L2.upd H rp (.lst (qs.map V.ref ++ [.ref p]))) rp (n + 1) G := by
  refine ⟨qs ++ [p], by rw [List.map_append]; exact upd_same, by rw [List.length_append, h2]; rfl, fun q hq => ?_⟩
  rcases List.mem_append.mp hq with h | h
  · obtain ⟨a, r, b, c⟩ := h3 q h
    exact ⟨a, r, b.upd h1 a, c⟩
  · simp at h
    subst h
    exact ⟨hp, row, hR.upd h1 hp, hG⟩
theorem q_appR {K : PySem.W.Frag} {σ : L2.St} {H : Hp} {ta te : TE} {D : Ends} {tz : TS} {rp : Addr} {n : Nat} {G : Parts → Prop} (h : RowsG H rp n G) (hn : n < 1000) (ha : Ev ta σ H (.ref rp)) (he : ER te σ H G) (k : ∀ H1 o, Ex H H1 → RowsG (upd H1 rp o) rp (n + 1) G → tz D σ (upd H1 rp o)) :
    tSeq (tDrop (tBM K "list" rAppend ta (tCons te tNil))) tz D σ H := ha H (Ex.refl H) _ fun H1 e1 => by
  obtain ⟨qs, h1, h2, h3⟩ := h
  refine ⟨Or.inl ⟨rfl, _, sq_of (e1 rp _ h1)⟩, he H1 e1 _ fun p H2 row hp e2 hR hG => ?_⟩
  refine ⟨rp, qs.map V.ref, .ref p, rfl, rfl, e2 rp _ (e1 rp _ h1), sz_lt (by rw [List.length_map]; omega), k H2 _ (e1.trans e2) (RowsG.app (e2 rp _ (e1 rp _ h1)) h2 (fun q hq => ⟨(h3 q hq).1, ?_⟩) ?_ hR hG)⟩
  · obtain ⟨r, a, b⟩ := (h3 q hq).2
    exact ⟨r, a.ex (e1.trans e2), b⟩
  · exact (ne_of_none (e1 _ _ h1) hp).symm
/-! ### lists of rows, made at once -/
def EW (te : TE) (σ : L2.St) (H : Hp) (G : Parts → Prop) : Prop := ∀ H1, Ex H H1 → ∀ Q : VK, (∀ p H2 row, Ex H1 H2 → RowT H2 p row → G row → Q (.ref p) H2) → te σ H1 Q
def EWA (ta : TA) (σ : L2.St) (H : Hp) (n : Nat) (G : Parts → Prop) : Prop := ∀ H1, Ex H H1 → ∀ Q : List V → Hp → Prop, (∀ (qs : List Addr) H2, Ex H1 H2 → qs.length = n → (∀ q ∈ qs, ∃ row, RowT H2 q row ∧ G row) → Q (qs.map V.ref) H2) → ta σ H1 Q
section
variable {K : PySem.W.Frag} {σ : L2.St} {H : Hp} {ta : TA} {te : TE} {D : Ends} {tz : TS} {G : Parts → Prop} {n : Nat}
theorem ER.ew (h : ER te σ H G) : EW te σ H G := fun H1 e1 Q q => h H1 e1 Q fun p H2 row _ e2 hR g => q p H2 row e2 hR g
theorem ewa_nil : EWA tNil σ H 0 G := fun H1 _ Q q => q [] H1 (Ex.refl H1) rfl fun _ h => absurd h List.not_mem_nil
theorem ewa_cons (h : EW te σ H G) (hr : EWA ta σ H n G) : EWA (tCons te ta) σ H (n + 1) G := fun H1 e1 Q q =>
  h H1 e1 _ fun p H2 row e2 hR g => hr H2 (e1.trans e2) _ fun qs H3 e3 hl hq => q (p :: qs) H3 (e2.trans e3) (congrArg (· + 1) hl) fun q' hq' => by
    rcases List.mem_cons.mp hq' with rfl | h'
    · exact ⟨row, hR.ex e3, g⟩
    · exact hq q' h'
theorem rows_lst (h : EWA ta σ H n G) (hn : n ≤ 1000) {Q : VK} (q : ∀ rp H2, H rp = none → Ex H H2 → RowsG H2 rp n G → Q (.ref rp) H2) : tLst ta σ H Q := h H (Ex.refl H) _ fun qs H1 e1 hl hq =>
  ⟨sz_of (by rw [List.length_map]; omega), fun rp hrp => q rp _ (fresh_back e1 hrp) (e1.trans (Ex.new hrp)) ⟨qs, upd_same, hl, fun q' h' => by
    obtain ⟨row, hR, g⟩ := hq q' h'
    obtain ⟨ps, hp, _⟩ := hR.pl
    exact ⟨ne_of_none hp hrp, row, hR.ex (Ex.new hrp), g⟩⟩⟩
theorem q_asgRows {i : Nat} (h : EWA ta σ H n G) (hn : n ≤ 1000) (k : ∀ rp H2, H rp = none → Ex H H2 → RowsG H2 rp n G → tz D (σ.set i (some (.ref rp))) H2) : tSeq (tAsg (tLst ta) (gName i)) tz D σ H := rows_lst (Q := fun v H2 => tz D (σ.set i (some v)) H2) h hn k
theorem q_appW {rp : Addr} (h : RowsG H rp n G) (hn : n < 1000) {tb : TE} (ha : Ev tb σ H (.ref rp)) (he : ∀ H1, Ex H H1 → ∀ Q : VK, (∀ p H2 row, p ≠ rp → Ex H1 H2 → RowT H2 p row → G row → Q (.ref p) H2) → te σ H1 Q) (k : ∀ H1 o, Ex H H1 → RowsG (upd H1 rp o) rp (n + 1) G → tz D σ (upd H1 rp o)) :
    tSeq (tDrop (tBM K "list" rAppend tb (tCons te tNil))) tz D σ H := ha H (Ex.refl H) _ fun H1 e1 => by
  obtain ⟨qs, h1, h2, h3⟩ := h
  refine ⟨Or.inl ⟨rfl, _, sq_of (e1 rp _ h1)⟩, he H1 e1 _ fun p H2 row hp e2 hR hG => ?_⟩
  refine ⟨rp, qs.map V.ref, .ref p, rfl, rfl, e2 rp _ (e1 rp _ h1), sz_lt (by rw [List.length_map]; omega), k H2 _ (e1.trans e2) (RowsG.app (e2 rp _ (e1 rp _ h1)) h2 (fun q hq => ⟨(h3 q hq).1, ?_⟩) hp hR hG)⟩
  obtain ⟨r, a, b⟩ := (h3 q hq).2
  exact ⟨r, a.ex (e1.trans e2), b⟩
end
end My

set_option Elab.async false
set_option linter.all false
set_option maxRecDepth 100000
set_option maxHeartbeats 4000000
namespace My
open PySem PySem.Spec PyProof.Rows L2 Evl
open SX (S S_len S_cat S_beq S_beq_eq S_inj S_tl)
section
variable {K : PySem.W.Frag} {σ : L2.St} {H : Hp} {ta tb tc te tl : TE} {x y z v : V} {D : Ends} {tu tz : TS} {G : Parts → Prop} {sp : Sp} {E : XK} {to th : TO}
theorem ev_call2R (ha : Ev ta σ H x) (hb : ER tb σ H G) (hs : ∀ p H1 row, Ex H H1 → RowT H1 p row → G row → SpV sp [x, .ref p] H1 z) : Ev (tCall sp [] E (tCons ta (tCons tb tNil))) σ H z := fun H0 e0 Q q =>
  ha H0 e0 _ fun H1 e1 => hb H1 (e0.trans e1) _ fun p H2 row _ e2 hR g => hs p H2 row ((e0.trans e1).trans e2) hR g H2 (Ex.refl H2) Q (fun H3 e3 => q H3 ((e1.trans e2).trans e3)) E
theorem ev_call2W (ha : Ev ta σ H x) (hb : EW tb σ H G) (hs : ∀ p H1 row, Ex H H1 → RowT H1 p row → G row → SpV sp [x, .ref p] H1 z) : Ev (tCall sp [] E (tCons ta (tCons tb tNil))) σ H z := fun H0 e0 Q q =>
  ha H0 e0 _ fun H1 e1 => hb H1 (e0.trans e1) _ fun p H2 row e2 hR g => hs p H2 row ((e0.trans e1).trans e2) hR g H2 (Ex.refl H2) Q (fun H3 e3 => q H3 ((e1.trans e2).trans e3)) E
theorem q_call3L {i : Nat} {xs : List V} (ha : Ev ta σ H x) (hb : EvL tb σ H xs) (hc : ∀ H1, Ex H H1 → Ev tc σ H1 y) (hs : ∀ p H1, H1 p = some (.lst xs) → Ex H H1 → sp [x, .ref p, y] H1 (fun v H2 => tz D (σ.set i (some v)) H2) E) : tSeq (tAsg (tCall sp [] E (tCons ta (tCons tb (tCons tc tNil)))) (gName i)) tz D σ H :=
  ha H (Ex.refl H) _ fun H1 e1 => hb H1 e1 _ fun p H2 _ e2 h2 => hc H2 (e1.trans e2) H2 (Ex.refl H2) _ fun H3 e3 => hs p H3 (e3 _ _ h2) ((e1.trans e2).trans e3)
theorem s_callL {i : Nat} {xs : List V} (hb : EvL tb σ H xs) (hs : ∀ p H1, H1 p = some (.lst xs) → Ex H H1 → sp [.ref p] H1 (fun v H2 => D.nx (σ.set i (some v)) H2) E) : tAsg (tCall sp [] E (tCons tb tNil)) (gName i) D σ H :=
  hb H (Ex.refl H) _ fun p H2 _ e2 h2 => hs p H2 h2 e2
theorem el_slN {xs : List V} {lo hi : Option Int} (h : EvL te σ H xs) (h1 : ∀ H1, Ex H H1 → EvO to σ H1 lo) (h2 : ∀ H1, Ex H H1 → EvO th σ H1 hi) : EvL (tSl (rSlL K) te to th) σ H (cutV xs lo hi) := fun H0 e0 Q q =>
  h H0 e0 _ fun a H1 na e1 ha => h1 H1 (e0.trans e1) H1 (Ex.refl H1) _ fun H2 e2 => h2 H2 ((e0.trans e1).trans e2) H2 (Ex.refl H2) _ fun H3 e3 => ⟨a, xs, rfl, sq_of (e3 _ _ (e2 _ _ ha)), fun p hp => q p _ (fresh_back ((e1.trans e2).trans e3) hp) (((e1.trans e2).trans e3).trans (Ex.new hp)) upd_same⟩
/-- [f(part) for part in row] -/
theorem q_mapParts {i j : Nat} {B : Parts} (f : Int × Int → Int × Int) (h : ER tl σ H (fun r => r = B)) (hz : B.length ≤ 40000) (hw : ∀ x, wipe ((wipe σ [j]).set j (some x)) [j] = wipe σ [j])
    (he : ∀ (q : Addr) (pt : Int × Int) H1, Ex H H1 → H1 q = some (.tup (pV pt)) → EvU te ((wipe σ [j]).set j (some (.ref q))) H1 (pV (f pt)))
    (k : ∀ p2 H2, H p2 = none → Ex H H2 → RowT H2 p2 (B.map f) → tz D (σ.set i (some (.ref p2))) H2) : tSeq (tAsg (tLc (iList K tl) (gName j) tYes te [j]) (gName i)) tz D σ H := h H (Ex.refl H) _ fun p H2 row np e2 hR hB => by
  subst hB
  obtain ⟨ps, hp, hg⟩ := hR.pl
  have hl := hg.len
  refine ⟨p, rfl, ⟨ps.map V.ref, sq_of hp⟩, fun Dl hD => lc_list (K := K) (xs := ps.map V.ref) (fun i H' => ∃ qs : List Addr, Ex H2 H' ∧ H' Dl = some (.lst (qs.map V.ref)) ∧ Pl .tup H' qs ((row.map f).take i)) ⟨[], Ex.new hD, upd_same, trivial⟩ (fun i H' _ ⟨qs, e, _⟩ => sq_of (e _ _ hp)) (fun i x H' hx ⟨qs, e, hDl, hq⟩ => ?_) (fun H' ⟨qs, e, hDl, hq⟩ => ?_)⟩
  · obtain ⟨rfl, hi0⟩ := ref_at hx
    have hi : i < row.length := by omega
    have hpi := e _ _ (hg.get i hi)
    refine ⟨hw _, show te ((wipe σ [j]).set j (some (.ref (ps.getD i 0)))) H' (fun y H4 => ∃ acc, H4 Dl = some (.lst acc) ∧ acc.length < sizeLine ∧ ∃ qs : List Addr, Ex H2 (upd H4 Dl (.lst (acc ++ [y]))) ∧ (upd H4 Dl (.lst (acc ++ [y]))) Dl = some (.lst (qs.map V.ref)) ∧ Pl .tup (upd H4 Dl (.lst (acc ++ [y]))) qs ((row.map f).take (i + 1))) from
      he _ _ H' (e2.trans e) hpi H' (Ex.refl H') _ fun tp H4 nt e4 ht => ⟨qs.map V.ref, e4 _ _ hDl, ?_, qs ++ [tp], ?_, ?_, ?_⟩⟩
    · rw [List.length_map, hq.len, List.length_take]
      exact sz_lt (by omega)
    · exact Ex.mut (e.trans e4) hD
    · rw [List.map_append]
      exact upd_same
    · have hi2 : i < (row.map f).length := by rw [List.length_map]; exact hi
      rw [List.take_succ_eq_append_getElem hi2]
      have keep : ∀ {q : Addr} {xs : List V}, H4 q = some (.tup xs) → (upd H4 Dl (.lst (qs.map V.ref ++ [.ref tp]))) q = some (.tup xs) := fun {q xs} hq1 => by
        rw [upd_ne (ne_of hq1 (e4 _ _ hDl) (by intro z; cases z))]
        exact hq1
      refine Pl.app (Pl.of hq.len fun k hk => keep (e4 _ _ (hq.get k hk))) ⟨?_, trivial⟩
      refine keep ?_
      rw [ht, List.getElem_map, List.getD_eq_getElem?_getD, List.getElem?_eq_getElem hi]
      rfl
  · have e0 : (ps.map V.ref).length = (row.map f).length := by rw [List.length_map, List.length_map, hl]
    rw [e0, List.take_length] at hq
    exact k Dl H' (fresh_back e2 hD) (e2.trans e) (Row.of hDl hq)
/-! ### loops over rows -/
def EG (tl : TE) (σ : L2.St) (H : Hp) (G : Parts → Prop) : Prop := ∀ Q : VK, (∀ rp n H2, Ex H H2 → RowsG H2 rp n G → Q (.ref rp) H2) → tl σ H Q
theorem s_forRows {j : Nat} (h : EG tl σ H G) (Sx : L2.St → Prop) (h0 : Sx σ)
    (hs : ∀ Hb, Ex H Hb → ∀ q row σ' H', Sx σ' → Ex Hb H' → RowT H' q row → G row → tu { D with nx := fun σ2 H2 => Sx σ2 ∧ Ex Hb H2, ct := fun σ2 H2 => Sx σ2 ∧ Ex Hb H2, bk := D.nx } (σ'.set j (some (.ref q))) H')
    (hd : ∀ σ' H', Sx σ' → Ex H H' → D.nx σ' H') : tFor (iList K tl) (gName j) tu D σ H := h _ fun rp n Hb eb hG => by
  obtain ⟨qs, h1, h2, h3⟩ := hG
  refine ⟨rp, rfl, ⟨qs.map V.ref, sq_of h1⟩, for_list (K := K) (xs := qs.map V.ref) (fun i σ' H' => Sx σ' ∧ Ex Hb H') ⟨h0, Ex.refl Hb⟩ (fun i σ' H' _ p => sq_of (p.2 _ _ h1)) (fun i x σ' H' hx p => ?_) (fun σ' H' p => hd σ' H' p.1 (eb.trans p.2))⟩
  obtain ⟨rfl, hi⟩ := ref_at hx
  obtain ⟨_, row, hR, hg⟩ := h3 (qs.getD i 0) (by rw [List.getD_eq_getElem?_getD, List.getElem?_eq_getElem hi]; exact List.getElem_mem hi)
  exact hs Hb eb _ row σ' H' p.1 p.2 (hR.ex p.2) hg
theorem q_forRows {j : Nat} (h : EG tl σ H G) (Sx : L2.St → Prop) (h0 : Sx σ)
    (hs : ∀ Hb, Ex H Hb → ∀ q row σ' H', Sx σ' → Ex Hb H' → RowT H' q row → G row → tu { D with nx := fun σ2 H2 => Sx σ2 ∧ Ex Hb H2, ct := fun σ2 H2 => Sx σ2 ∧ Ex Hb H2, bk := tz D } (σ'.set j (some (.ref q))) H')
    (hd : ∀ σ' H', Sx σ' → Ex H H' → tz D σ' H') : tSeq (tFor (iList K tl) (gName j) tu) tz D σ H := s_forRows (D := { D with nx := tz D }) h Sx h0 hs hd
theorem row_ne {H : Hp} {rp p : Addr} {n : Nat} {row : Parts} (h : RowsG H rp n G) (hn : 0 < n) (hR : RowT H p row) : p ≠ rp := by
  rintro rfl
  obtain ⟨qs, h1, h2, h3⟩ := h
  obtain ⟨ps, hp, hg⟩ := hR.pl
  rw [h1] at hp
  have e := HO.lst.inj (Option.some.inj hp)
  have hl := hg.len
  cases qs with
  | nil => simp at h2; omega
  | cons q qs =>
    cases ps with
    | nil => cases e
    | cons p2 ps =>
      cases row with
      | nil => cases hl
      | cons pt r =>
        have e2 : q = p2 := V.ref.inj (List.cons.inj e).1
        obtain ⟨_, r2, ⟨ps2, a, _⟩, _⟩ := h3 q List.mem_cons_self
        have b := hg.1
        rw [← e2, a] at b
        cases b
/-- rows + [[]] -/
theorem eg_more {rp : Addr} {n : Nat} (ha : Ev ta σ H (.ref rp)) (h : RowsG H rp n G) (hn : n ≤ 1000) (g0 : G []) : EG (tOp rCat ta (tLst (tCons (tLst tNil) tNil))) σ H G := fun Q q =>
  ha H (Ex.refl H) _ fun H1 e1 => by
    obtain ⟨qs, h1, h2, h3⟩ := h.ex e1
    refine el_lst (σ := σ) (H := H1) ea_nil (by decide) H1 (Ex.refl H1) (fun v H2 => [v].length ≤ sizeLine ∧ ∀ p, H2 p = none → (fun y H3 => rCat (.ref rp) y H3 Q) (.ref p) (upd H2 p (.lst [v]))) fun a H2 na e2 ha2 => ⟨by show 1 ≤ sizeLine; decide, fun b hb => ?_⟩
    have e3 : Ex H2 (upd H2 b (.lst [V.ref a])) := Ex.new hb
    have h1b := e3 _ _ (e2 _ _ h1)
    refine ⟨rp, b, qs.map V.ref, [.ref a], rfl, rfl, h1b, upd_same, by rw [List.length_map, h2]; show n + 1 ≤ sizeLine; exact sz_of (by omega), fun l hl => q l (n + 1) _ (((e1.trans e2).trans e3).trans (Ex.new hl)) ⟨qs ++ [a], by rw [List.map_append]; exact upd_same, by rw [List.length_append, h2]; rfl, fun q1 hq1 => ?_⟩⟩
    rcases List.mem_append.mp hq1 with hm | hm
    · obtain ⟨_, row, hR, hg⟩ := h3 q1 hm
      have hR2 := (hR.ex e2).ex e3
      obtain ⟨ps, hp, _⟩ := hR2.pl
      exact ⟨ne_of_none hp hl, row, hR2.ex (Ex.new hl), hg⟩
    · simp at hm
      subst hm
      have ha3 := e3 _ _ ha2
      exact ⟨ne_of_none ha3 hl, [], Row.of (ps := []) ((Ex.new hl) _ _ ha3) trivial, g0⟩
theorem ev_rowAt {rp : Addr} {n : Nat} {i : Int} (h : RowsG H rp n G) (h0 : 0 ≤ i) (h1 : i < (n : Int)) (ha : Ev ta σ H (.ref rp)) (hb : Ev tb σ H (.int i)) : ∃ q row, RowT H q row ∧ G row ∧ Ev (tOp (rIxL K) ta tb) σ H (.ref q) := by
  obtain ⟨qs, hp, hl, hg⟩ := h
  have hi : i.toNat < qs.length := by omega
  obtain ⟨_, row, hR, g⟩ := hg (qs.getD i.toNat 0) (by rw [List.getD_eq_getElem?_getD, List.getElem?_eq_getElem hi]; exact List.getElem_mem hi)
  refine ⟨_, row, hR, g, ev_op ha hb (rv_ixL (K := K) (sq_of hp) ?_)⟩
  have e : i = ((i.toNat : Nat) : Int) := by omega
  rw [e]
  exact atI_ref hi
end
theorem q_rowAt {K : PySem.W.Frag} {σ : L2.St} {H : Hp} {ta tb : TE} {D : Ends} {tz : TS} {G : Parts → Prop} {j : Nat} {rp : Addr} {n : Nat} {i : Int} (h : RowsG H rp n G) (h0 : 0 ≤ i) (h1 : i < (n : Int)) (ha : Ev ta σ H (.ref rp)) (hb : Ev tb σ H (.int i)) (k : ∀ q row H1, Ex H H1 → RowT H1 q row → G row → tz D (σ.set j (some (.ref q))) H1) : tSeq (tAsg (tOp (rIxL K) ta tb) (gName j)) tz D σ H := by
  obtain ⟨q, row, hR, hG, he⟩ := ev_rowAt (K := K) h h0 h1 ha hb
  exact q_asg he fun H1 e1 => k q row H1 e1 (hR.ex e1) hG
theorem within_drop : ∀ {ds ss : List Int} (n : Nat), Within ds ss → Within (ds.drop n) (ss.drop n)
  | _, _, 0, h => h
  | [], [], n + 1, h => h
  | d :: ds, s :: ss, n + 1, h => within_drop n h.2
  | [], _ :: _, _ + 1, h => h.elim
  | _ :: _, [], _ + 1, h => h.elim
theorem within_mem {b : Int} : ∀ {ds ss : List Int}, Within ds ss → (∀ s ∈ ss, s ≤ b) → ∀ z ∈ ds, 0 ≤ z ∧ z < b
  | [], [], _, _, z, hz => by cases hz
  | d :: ds, s :: ss, h, hb, z, hz => by
    rcases List.mem_cons.mp hz with rfl | hz
    · have := hb s List.mem_cons_self
      exact ⟨h.1.1, Int.lt_of_lt_of_le h.1.2 this⟩
    · exact within_mem h.2 (fun s hs => hb s (List.mem_cons_of_mem _ hs)) z hz
  | [], _ :: _, h, _, _, _ => h.elim
  | _ :: _, [], h, _, _, _ => h.elim
end My

set_option Elab.async false
set_option linter.all false
set_option maxRecDepth 100000
set_option maxHeartbeats 4000000
namespace My
open PySem PySem.Spec PyProof.Rows L2 Evl
theorem fold_iff (line : List Nat) : ∀ (row : Parts) (le : Int) (ws : List (List Nat)), (row.foldl (stP line) (some (le, ws))).isSome = true ↔ InOrd (line.length : Int) le row ∧ (row.map (seg line)).Nodup ∧ ∀ s ∈ row.map (seg line), s ∉ ws
  | [], le, ws => by simp [InOrd]
  | p :: r, le, ws => by
    rw [List.foldl_cons]
    by_cases c : (le ≤ p.1 ∧ p.1 < p.2 ∧ p.2 ≤ (line.length : Int)) ∧ seg line p ∉ ws
    · have e : stP line (some (le, ws)) p = some (p.2, seg line p :: ws) := if_pos c
      rw [e, fold_iff line r]
      obtain ⟨⟨c1, c2, c3⟩, c4⟩ := c
      constructor
      · rintro ⟨h1, h2, h3⟩
        refine ⟨⟨c1, c2, c3, h1⟩, ?_, fun s hs => ?_⟩
        · rw [List.map_cons, List.nodup_cons]
          exact ⟨fun hm => h3 _ hm List.mem_cons_self, h2⟩
        · rw [List.map_cons] at hs
          rcases List.mem_cons.mp hs with rfl | hs
          · exact c4
          · exact fun hw => h3 s hs (List.mem_cons_of_mem _ hw)
      · rintro ⟨⟨_, _, _, h1⟩, h2, h3⟩
        rw [List.map_cons, List.nodup_cons] at h2
        refine ⟨h1, h2.2, fun s hs hw => ?_⟩
        rcases List.mem_cons.mp hw with rfl | hw
        · exact h2.1 hs
        · exact h3 s (by rw [List.map_cons]; exact List.mem_cons_of_mem _ hs) hw
    · have e : stP line (some (le, ws)) p = none := if_neg c
      rw [e, st_none]
      constructor
      · intro h; cases h
      · rintro ⟨⟨c1, c2, c3, _⟩, _, h3⟩
        exact absurd ⟨⟨c1, c2, c3⟩, h3 _ (by rw [List.map_cons]; exact List.mem_cons_self)⟩ c
theorem good_iff {line : List Nat} {row : Parts} : goodF line row = true ↔ InOrd (line.length : Int) 0 row ∧ (row.map (seg line)).Nodup := by
  unfold goodF stF
  rw [fold_iff]
  constructor
  · rintro ⟨a, b, _⟩; exact ⟨a, b⟩
  · rintro ⟨a, b⟩; exact ⟨a, b, fun _ _ h => absurd h List.not_mem_nil⟩
theorem ord_app {n : Int} : ∀ {lo : Int} {r1 r2 : Parts}, InOrd n lo (r1 ++ r2) ↔ InOrd n lo r1 ∧ InOrd n (endF lo r1) r2
  | lo, [], r2 => by simp [InOrd, endF]
  | lo, p :: r, r2 => by
    have ih := @ord_app n p.2 r r2
    show (lo ≤ p.1 ∧ p.1 < p.2 ∧ p.2 ≤ n ∧ InOrd n p.2 (r ++ r2)) ↔ (lo ≤ p.1 ∧ p.1 < p.2 ∧ p.2 ≤ n ∧ InOrd n p.2 r) ∧ InOrd n (endF p.2 r) r2
    rw [ih]
    constructor
    · rintro ⟨a, b, c, d, e⟩; exact ⟨⟨a, b, c, d⟩, e⟩
    · rintro ⟨⟨a, b, c, d⟩, e⟩; exact ⟨a, b, c, d, e⟩
theorem ord_mono {n m lo lo2 : Int} {r : Parts} (h : InOrd n lo r) (hn : n ≤ m) (hl : lo2 ≤ lo) : InOrd m lo2 r := by
  induction r generalizing lo lo2 with
  | nil => trivial
  | cons p r ih => exact ⟨Int.le_trans hl h.1, h.2.1, Int.le_trans h.2.2.1 hn, ih h.2.2.2 (Int.le_refl _)⟩
theorem ord_end {n lo : Int} {r : Parts} (h : InOrd n lo r) : lo ≤ endF lo r := by
  induction r generalizing lo with
  | nil => exact Int.le_refl _
  | cons p r ih => exact Int.le_trans (Int.le_trans h.1 (Int.le_of_lt h.2.1)) (ih h.2.2.2)
theorem ord_mem {n lo : Int} {r : Parts} (h : InOrd n lo r) : ∀ p ∈ r, lo ≤ p.1 ∧ p.1 < p.2 ∧ p.2 ≤ endF lo r ∧ p.2 ≤ n := by
  induction r generalizing lo with
  | nil => intro p hp; cases hp
  | cons q r ih =>
    intro p hp
    rcases List.mem_cons.mp hp with rfl | hp
    · exact ⟨h.1, h.2.1, ord_end h.2.2.2, h.2.2.1⟩
    · obtain ⟨a, b, c, d⟩ := ih h.2.2.2 p hp
      exact ⟨Int.le_trans (Int.le_trans h.1 (Int.le_of_lt h.2.1)) a, b, c, d⟩
def shiftP (w : Int) (p : Int × Int) : Int × Int := (p.1 + w, p.2 + w)
theorem ord_shift {n lo w : Int} {r : Parts} (h : InOrd n lo r) : InOrd (n + w) (lo + w) (r.map (shiftP w)) := by
  induction r generalizing lo with
  | nil => trivial
  | cons p r ih =>
    have h1 : lo ≤ p.1 := h.1
    have h2 : p.1 < p.2 := h.2.1
    have h3 : p.2 ≤ n := h.2.2.1
    exact ⟨by show lo + w ≤ p.1 + w; omega, by show p.1 + w < p.2 + w; omega, by show p.2 + w ≤ n + w; omega, ih h.2.2.2⟩
theorem cut_left {T X : List Nat} {p m : Nat} (h : p + m ≤ T.length) : ((T ++ X).drop p).take m = (T.drop p).take m := by
  rw [List.drop_append_of_le_length (by omega), List.take_append_of_le_length (by rw [List.length_drop]; omega)]
theorem cut_right {T Y : List Nat} {q m : Nat} (h : T.length ≤ q) : ((T ++ Y).drop q).take m = (Y.drop (q - T.length)).take m := by
  rw [List.drop_append, List.drop_eq_nil_of_le h, List.nil_append]
def grown (line : List Nat) (a : Nat) (word : List Nat) : List Nat := line.take a ++ word ++ line.drop a
section
variable {line word : List Nat} {a : Nat}
theorem seg_nat {L : List Nat} {p : Int × Int} (h1 : 0 ≤ p.1) (h2 : 0 ≤ p.2) : seg L p = (L.drop p.1.toNat).take (p.2.toNat - p.1.toNat) := cutL_mid h1 h2
theorem seg_ahead (ha : a ≤ line.length) {p : Int × Int} (h0 : 0 ≤ p.1) (h1 : p.1 < p.2) (h2 : p.2 ≤ (a : Int)) : seg (grown line a word) p = seg line p := by
  rw [seg_nat h0 (by omega), seg_nat h0 (by omega)]
  have hT : (line.take a).length = a := by rw [List.length_take]; omega
  unfold grown
  rw [List.append_assoc, cut_left (by omega)]
  conv => rhs; rw [← List.take_append_drop a line]
  rw [cut_left (by omega)]
theorem seg_behind (ha : a ≤ line.length) {p : Int × Int} (h0 : (a : Int) ≤ p.1) (h1 : p.1 < p.2) : seg (grown line a word) (shiftP (word.length : Int) p) = seg line p := by
  rw [seg_nat (by show 0 ≤ p.1 + _; omega) (by show 0 ≤ p.2 + _; omega), seg_nat (by omega) (by omega)]
  have hT : (line.take a).length = a := by rw [List.length_take]; omega
  have hU : (line.take a ++ word).length = a + word.length := by rw [List.length_append, hT]
  unfold grown
  show ((line.take a ++ word ++ line.drop a).drop (p.1 + (word.length : Int)).toNat).take ((p.2 + (word.length : Int)).toNat - (p.1 + (word.length : Int)).toNat) = _
  rw [cut_right (by omega), hU]
  conv => rhs; rw [← List.take_append_drop a line]
  rw [cut_right (by omega), hT]
  have e1 : (p.1 + (word.length : Int)).toNat - (a + word.length) = p.1.toNat - a := by omega
  have e2 : (p.2 + (word.length : Int)).toNat - (p.1 + (word.length : Int)).toNat = p.2.toNat - p.1.toNat := by omega
  rw [e1, e2]
theorem seg_word (ha : a ≤ line.length) : seg (grown line a word) ((a : Int), (a : Int) + (word.length : Int)) = word := by
  rw [seg_nat (by show (0 : Int) ≤ (a : Int); omega) (by show (0 : Int) ≤ (a : Int) + _; omega)]
  have hT : (line.take a).length = a := by rw [List.length_take]; omega
  unfold grown
  rw [List.append_assoc]
  show ((line.take a ++ (word ++ line.drop a)).drop (a : Int).toNat).take (((a : Int) + (word.length : Int)).toNat - (a : Int).toNat) = _
  have e1 : (a : Int).toNat = a := by omega
  have e2 : ((a : Int) + (word.length : Int)).toNat - (a : Int).toNat = word.length := by omega
  rw [e2, e1, cut_right (by omega), hT, Nat.sub_self, List.drop_zero, List.take_left]
theorem grown_len (ha : a ≤ line.length) : (grown line a word).length = line.length + word.length := by
  unfold grown
  rw [List.length_append, List.length_append, List.length_take, List.length_drop]
  omega
theorem twice_good {A B : Parts} (ha : a ≤ line.length) (hA : endF 0 A ≤ (a : Int)) (hB : InOrd (line.length : Int) (a : Int) B) (h : goodF line (A ++ B) = true) : goodF (grown line a word) (A ++ B.map (shiftP (word.length : Int))) = true := by
  obtain ⟨h1, h2⟩ := good_iff.mp h
  obtain ⟨oA, _⟩ := ord_app.mp h1
  have hseg : (A ++ B.map (shiftP (word.length : Int))).map (seg (grown line a word)) = (A ++ B).map (seg line) := by
    rw [List.map_append, List.map_append, List.map_map]
    congr 1
    · refine List.map_congr_left fun p hp => ?_
      obtain ⟨q1, q2, q3, _⟩ := ord_mem oA p hp
      exact seg_ahead ha q1 q2 (by omega)
    · refine List.map_congr_left fun p hp => ?_
      obtain ⟨q1, q2, _, _⟩ := ord_mem hB p hp
      exact seg_behind ha q1 q2
  refine good_iff.mpr ⟨?_, by rw [hseg]; exact h2⟩
  rw [grown_len ha]
  refine ord_app.mpr ⟨ord_mono oA (by omega) (Int.le_refl _), ?_⟩
  have := ord_shift (w := (word.length : Int)) hB
  refine ord_mono this (by omega) (by omega)
theorem twice_bad {A B : Parts} (ha : a ≤ line.length) (hA : endF 0 A ≤ (a : Int)) (hB : InOrd (line.length : Int) (a : Int) B) (h : goodF line (A ++ B) = true) (hw : word ∈ (A ++ B).map (seg line)) :
    goodF (grown line a word) (A ++ [((a : Int), (a : Int) + (word.length : Int))] ++ B.map (shiftP (word.length : Int))) = false := by
  cases hg : goodF (grown line a word) (A ++ [((a : Int), (a : Int) + (word.length : Int))] ++ B.map (shiftP (word.length : Int))) with
  | false => rfl
  | true =>
    exfalso
    obtain ⟨_, hn⟩ := good_iff.mp hg
    obtain ⟨oA, _⟩ := ord_app.mp (good_iff.mp h).1
    rw [List.map_append, List.map_append, List.map_map] at hn
    have hAs : A.map (seg (grown line a word)) = A.map (seg line) := List.map_congr_left fun p hp => by
      obtain ⟨q1, q2, q3, _⟩ := ord_mem oA p hp
      exact seg_ahead ha q1 q2 (by omega)
    have hBs : B.map (seg (grown line a word) ∘ shiftP (word.length : Int)) = B.map (seg line) := List.map_congr_left fun p hp => by
      obtain ⟨q1, q2, _, _⟩ := ord_mem hB p hp
      exact seg_behind ha q1 q2
    have hWs : [((a : Int), (a : Int) + (word.length : Int))].map (seg (grown line a word)) = [word] := by
      show [seg (grown line a word) ((a : Int), (a : Int) + (word.length : Int))] = [word]
      rw [seg_word ha]
    rw [hAs, hBs, hWs] at hn
    rw [List.map_append] at hw
    rcases List.mem_append.mp hw with h1 | h1
    · rw [List.append_assoc, List.nodup_append] at hn
      exact hn.2.2 word h1 word (List.mem_append_left _ (List.mem_singleton.mpr rfl)) rfl
    · rw [List.nodup_append] at hn
      exact hn.2.2 word (List.mem_append_right _ (List.mem_singleton.mpr rfl)) word h1 rfl
end
end My

set_option Elab.async false
set_option linter.all false
set_option maxRecDepth 100000
set_option maxHeartbeats 4000000
namespace My
open PySem PySem.Spec PyProof.Rows L2 Evl
open SX (S S_len S_cat S_beq S_beq_eq S_inj S_tl)
/-! ### text[::-1] -/
theorem rev_is (l : List Nat) (u : Tok) : Txt.sliceBy (S l) none none (-1, u) = S l.reverse := by
  have h := step_rev_list (S l) u
  have e : (List.range (S l).length).map (fun k => (S l).cps.getD ((S l).length - 1 - k) 0) = l.reverse := by
    apply List.ext_getElem?
    intro i
    rw [List.getElem?_map]
    have hl : (S l).length = l.length := S_len l
    rw [hl]
    by_cases c : i < l.length
    · rw [List.getElem?_range c, List.getElem?_reverse c]
      show some ((S l).cps.getD (l.length - 1 - i) 0) = _
      have : l.length - 1 - i < l.length := by omega
      rw [List.getElem?_eq_getElem this]
      congr 1
      show l.toArray.getD _ 0 = _
      simp [this]
    · rw [List.getElem?_eq_none (by simp; omega), List.getElem?_eq_none (by simp; omega)]
      rfl
  rw [e] at h
  generalize Txt.sliceBy (S l) none none (-1, u) = z at h
  obtain ⟨⟨c⟩⟩ := z
  have h2 : c = l.reverse := h
  rw [h2]
def tRevS (te : TE) : TE := fun σ H Q => te σ H fun x H1 => ∃ l : List Nat, x = .str (S l) ∧ l.length ≤ 1000000 ∧ Q (.str (S l.reverse)) H1
theorem pe_revS {X : Cx} {e : Expr} {te : TE} {k : Nat} {p1 p2 p3 pos : Pos} (he : PE X e te) : PE X (.Subscript e (.Slice none none (some (.UnaryOp .USub (.Constant (.int 1) k p1) p2)) p3) pos) (tRevS te) := by
  refine ⟨fun pins s σ H Q I h => ?_⟩
  refine Subscript_ (thn (he.run pins s σ H _ I h) fun v s1 ⟨x, H1, I1, r1, q1⟩ => ?_)
  obtain ⟨l, ex, hz, q⟩ := q1
  subst ex
  obtain ⟨t, rfl⟩ := r1
  have hst : PO X (some (.UnaryOp .USub (.Constant (.int 1) k p1) p2)) (tPart (tUn (rU fun i => .int (-i)) (tC (.int 1)))) := po_some (pe_un un_neg pe_int)
  refine wpAny_Slice (thn (po_none.run pins s1 σ H1 (fun o H2 => o = none ∧ H2 = H1) I1 ⟨rfl, rfl⟩) fun vl s2 ⟨l2, H2, I2, pl, el, e2⟩ => ?_)
  subst el e2
  refine thn (po_none.run pins s2 σ H2 (fun o H3 => o = none ∧ H3 = H2) I2 ⟨rfl, rfl⟩) fun vu s3 ⟨u, H3, I3, pu, eu, e3⟩ => ?_
  subst eu e3
  refine thn (hst.run pins s3 σ H3 (fun o H4 => o = some (-1) ∧ H4 = H3) I3 ⟨1, rfl, -1, rfl, rfl, rfl⟩) fun vs s4 ⟨o, H4, I4, ps, eo, e4⟩ => ?_
  subst eo e4
  have I5 : Inv X pins σ H4 { s4 with heap := s4.heap.push { cls := .type "slice", data := .fields #[vl, vu, vs] } } := I4.kept (t' := s4.toks) fun b ob q => Heap.get?_push_of_some _ q
  cases pl
  cases pu
  obtain ⟨st, hvs, hst2⟩ := IsPart.raw ps
  cases st with
  | none => cases hst2
  | some st =>
    obtain ⟨i, u⟩ := st
    have hi : i = -1 := Option.some.inj hst2
    subst hi
    subst hvs
    show wpAny (model X.prog X.w) X.A (subscriptTail e (.Slice none none (some (.UnaryOp .USub (.Constant (.int 1) k p1) p2)) p3) (.str (S l) t) (.ref s4.heap.objs.size)) (EP X pins σ Q) X.xe { s4 with heap := s4.heap.push { cls := .type "slice", data := .fields #[.none, .none, partValue (some (-1, u))] } }
    refine tail_any (ops := [.ref s4.heap.objs.size, .str (S l) t]) (typeIs_str _ _ _) PySem.F.slot_str_getitem.lookup ?_ (by with_unfolding_all rfl)
    refine wpAny_getItem_str_slice (l := none) (u := none) (st := some (-1, u)) ⟨_, Heap.get?_push_size _ rfl, rfl, rfl⟩ rfl ?_
    have hr := rev_is l u
    have hle : (S l.reverse).length ≤ sizeLine := by
      rw [S_len, List.length_reverse]
      exact Nat.le_trans hz (by decide)
    rw [← hr] at q hle
    unfold Txt.sliceBy at q hle
    unfold sliceMade
    have hc : ¬ ((((some ((-1 : Int), u)).map (·.1)).getD 1 == 1 && (slicePicked (S l) none none (some (-1, u))).length == (S l).length) = true) := by
      have : (((some ((-1 : Int), u)).map (·.1)).getD 1 == 1) = false := rfl
      rw [this]
      simp
    rw [if_neg hc] at q hle ⊢
    exact ⟨hle, .str _, _, I5.tok _, ⟨_, rfl⟩, q⟩
section
variable {K : PySem.W.Frag} {σ : L2.St} {H : Hp} {ta tb tc te tl : TE} {x y z v : V} {D : Ends} {tu tz : TS} {G : Parts → Prop} {sp : Sp} {E : XK}
theorem ev_revS {l : List Nat} (h : Ev te σ H (.str (S l))) (hz : l.length ≤ 1000000) : Ev (tRevS te) σ H (.str (S l.reverse)) := fun H1 e Q q => h H1 e _ fun H2 e2 => ⟨l, rfl, hz, q H2 e2⟩
theorem er_revL {p : Addr} {row : Parts} (h : Ev te σ H (.ref p)) (hR : RowT H p row) : ER (tRevL K te) σ H (fun r => r = row.reverse) := fun H1 e Q q => h H1 e _ fun H2 e2 => by
  obtain ⟨ps, hp, hl, hg⟩ := hR
  have hp2 := e2 _ _ (e _ _ hp)
  refine ⟨p, _, rfl, sq_of hp2, fun np hnp => q np _ row.reverse (fresh_back e2 hnp) (e2.trans (Ex.new hnp)) ?_ rfl⟩
  refine ⟨ps.reverse, by rw [upd_same, List.map_reverse], by rw [List.length_reverse, List.length_reverse, hl], fun k hk => ?_⟩
  rw [List.length_reverse] at hk
  have e1 : ps.reverse.getD k 0 = ps.getD (row.length - 1 - k) 0 := by
    rw [List.getD_eq_getElem?_getD, List.getD_eq_getElem?_getD, List.getElem?_reverse (by omega), hl]
  have e3 : row.reverse.getD k (0, 0) = row.getD (row.length - 1 - k) (0, 0) := by
    rw [List.getD_eq_getElem?_getD, List.getD_eq_getElem?_getD, List.getElem?_reverse (by omega)]
  rw [e1, e3]
  have g := e2 _ _ (e _ _ (hg (row.length - 1 - k) (by omega)))
  have n : ps.getD (row.length - 1 - k) 0 ≠ np := fun z => by rw [z, hnp] at g; cases g
  rw [upd_ne n]
  exact g
/-- [f(part) for part in row] as a value -/
theorem er_mapParts {j : Nat} {B : Parts} (f : Int × Int → Int × Int) (h : ER tl σ H (fun r => r = B)) (hz : B.length ≤ 40000) (hw : ∀ x, wipe ((wipe σ [j]).set j (some x)) [j] = wipe σ [j])
    (he : ∀ (q : Addr) (pt : Int × Int) H1, Ex H H1 → H1 q = some (.tup (pV pt)) → EvU te ((wipe σ [j]).set j (some (.ref q))) H1 (pV (f pt))) :
    ER (tLc (iList K tl) (gName j) tYes te [j]) σ H (fun r => r = B.map f) := fun H0 e0 Q k => h H0 e0 _ fun p H2 row np e2 hR hB => by
  subst hB
  obtain ⟨ps, hp, hg⟩ := hR.pl
  have hl := hg.len
  refine ⟨p, rfl, ⟨ps.map V.ref, sq_of hp⟩, fun Dl hD => lc_list (K := K) (xs := ps.map V.ref) (fun i H' => ∃ qs : List Addr, Ex H2 H' ∧ H' Dl = some (.lst (qs.map V.ref)) ∧ Pl .tup H' qs ((row.map f).take i)) ⟨[], Ex.new hD, upd_same, trivial⟩ (fun i H' _ ⟨qs, e, _⟩ => sq_of (e _ _ hp)) (fun i x H' hx ⟨qs, e, hDl, hq⟩ => ?_) (fun H' ⟨qs, e, hDl, hq⟩ => ?_)⟩
  · obtain ⟨rfl, hi0⟩ := ref_at hx
    have hi : i < row.length := by omega
    have hpi := e _ _ (hg.get i hi)
    refine ⟨hw _, show te ((wipe σ [j]).set j (some (.ref (ps.getD i 0)))) H' (fun y H4 => ∃ acc, H4 Dl = some (.lst acc) ∧ acc.length < sizeLine ∧ ∃ qs : List Addr, Ex H2 (upd H4 Dl (.lst (acc ++ [y]))) ∧ (upd H4 Dl (.lst (acc ++ [y]))) Dl = some (.lst (qs.map V.ref)) ∧ Pl .tup (upd H4 Dl (.lst (acc ++ [y]))) qs ((row.map f).take (i + 1))) from
      he _ _ H' ((e0.trans e2).trans e) hpi H' (Ex.refl H') _ fun tp H4 nt e4 ht => ⟨qs.map V.ref, e4 _ _ hDl, ?_, qs ++ [tp], ?_, ?_, ?_⟩⟩
    · rw [List.length_map, hq.len, List.length_take]
      exact sz_lt (by omega)
    · exact Ex.mut (e.trans e4) hD
    · rw [List.map_append]
      exact upd_same
    · have hi2 : i < (row.map f).length := by rw [List.length_map]; exact hi
      rw [List.take_succ_eq_append_getElem hi2]
      have keep : ∀ {q : Addr} {xs : List V}, H4 q = some (.tup xs) → (upd H4 Dl (.lst (qs.map V.ref ++ [.ref tp]))) q = some (.tup xs) := fun {q xs} hq1 => by
        rw [upd_ne (ne_of hq1 (e4 _ _ hDl) (by intro z; cases z))]
        exact hq1
      refine Pl.app (Pl.of hq.len fun k hk => keep (e4 _ _ (hq.get k hk))) ⟨?_, trivial⟩
      refine keep ?_
      rw [ht, List.getElem_map, List.getD_eq_getElem?_getD, List.getElem?_eq_getElem hi]
      rfl
  · have e9 : (ps.map V.ref).length = (row.map f).length := by rw [List.length_map, List.length_map, hl]
    rw [e9, List.take_length] at hq
    exact k Dl H' _ (fresh_back e2 hD) (e2.trans e) (Row.of hDl hq) rfl
theorem ev_find {s y : Str} {i : Int} (ha : Ev ta σ H (.str s)) (hb : Ev tb σ H (.str y)) (hc : Ev tc σ H (.int i)) : Ev (tBM K "str" (fun x xs H Q => ∃ (a b : Str) (i : Int), x = .str a ∧ xs = [.str b, .int i] ∧ Q (.int (Txt.find3 a b i)) H) ta (tCons tb (tCons tc tNil))) σ H (.int (Txt.find3 s y i)) := fun H1 e Q q =>
  ha H1 e _ fun H2 e2 => ⟨rfl, hb H2 (e.trans e2) _ fun H3 e3 => hc H3 ((e.trans e2).trans e3) _ fun H4 e4 => ⟨s, y, i, rfl, rfl, q H4 ((e2.trans e3).trans e4)⟩⟩
end
/-! ### find -/
open PySem.StrLaws in
theorem occ_lo (s sub : Str) (lo hi limit : Nat) : ∀ (l : List Nat) (st : Array Nat × Nat), lo ≤ st.snd → (∀ i ∈ st.fst, lo ≤ i) → ∀ i ∈ (forIn l st (occBody s sub hi limit)).run.fst, lo ≤ i
  | [], st, _, h => h
  | a :: l, st, hf, h => by
    rw [List.forIn_cons]
    unfold occBody
    split
    · rename_i hc
      refine occ_lo s sub lo hi limit l _ ?_ ?_
      · have := hc.1.1.2
        show lo ≤ a + sub.length
        omega
      · intro i hi'
        simp only [Array.mem_push] at hi'
        rcases hi' with hm | rfl
        · exact h i hm
        · have := hc.1.1.2
          omega
    · exact occ_lo s sub lo hi limit l _ hf h
theorem find_in {l w : List Nat} {r : Nat} (h : 0 ≤ Txt.find3 (S l) (S w) (r : Int)) : ∃ k : Nat, Txt.find3 (S l) (S w) (r : Int) = (k : Int) ∧ (r ≤ l.length → r ≤ k) ∧ k + w.length ≤ l.length ∧ (l.drop k).take w.length = w := by
  revert h
  unfold Txt.find3
  cases hm : Builtin.Str.occurrences (S l) (S w) (fromIndex (S l).length (r : Int)) (S l).length 1 with
  | nil => intro h; exact absurd h (by decide)
  | cons k t =>
    intro _
    have hk : k ∈ Builtin.Str.occurrences (S l) (S w) (fromIndex (S l).length (r : Int)) (S l).length 1 := by rw [hm]; exact List.mem_cons_self ..
    obtain ⟨h1, h2⟩ := PySem.StrLaws.occ_spec _ _ _ _ _ _ hk
    rw [PySem.StrLaws.subAt_eq] at h2
    refine ⟨k, rfl, fun hr => ?_, by rw [S_len, S_len] at h1; exact h1, ?_⟩
    · rw [PySem.StrLaws.occ_eq] at hk
      have hlo := occ_lo (S l) (S w) (fromIndex (S l).length (r : Int)) (S l).length 1 _ (#[], fromIndex (S l).length (r : Int)) (Nat.le_refl _) (fun j hj => absurd hj (Array.not_mem_empty j)) k (by simpa using hk)
      have : fromIndex (S l).length (r : Int) = r := by
        unfold fromIndex
        rw [if_neg (by omega)]
        omega
      omega
    · have := eq_of_beq h2
      rw [S_len] at this
      exact this
end My

set_option Elab.async false
set_option linter.all false
set_option maxRecDepth 100000
set_option maxHeartbeats 4000000
namespace My
/-! ### all words over a list of letters -/
def wordsOf (abc : List Nat) : Nat → List (List Nat)
  | 0 => [[]]
  | k + 1 => abc.flatMap fun c => (wordsOf abc k).map (c :: ·)
def uptoW (abc : List Nat) : Nat → List (List Nat)
  | 0 => []
  | m + 1 => uptoW abc m ++ wordsOf abc (m + 1)
theorem sum_const {α : Type} (l : List α) (n : Nat) : (l.map fun _ => n).sum = l.length * n := by
  induction l with
  | nil => simp
  | cons a l ih => rw [List.map_cons, List.sum_cons, ih, List.length_cons, Nat.add_mul]; omega
theorem wordsOf_len (abc : List Nat) : ∀ k, (wordsOf abc k).length = abc.length ^ k
  | 0 => rfl
  | k + 1 => by
    show (abc.flatMap fun c => (wordsOf abc k).map (c :: ·)).length = _
    rw [List.length_flatMap]
    have : (abc.map fun c => ((wordsOf abc k).map (c :: ·)).length) = abc.map fun _ => abc.length ^ k := by
      apply List.map_congr_left
      intro c _
      rw [List.length_map, wordsOf_len abc k]
    rw [this, sum_const, Nat.pow_succ, Nat.mul_comm]
theorem mem_wordsOf {abc : List Nat} : ∀ {k : Nat} {u : List Nat}, u.length = k → (∀ c ∈ u, c ∈ abc) → u ∈ wordsOf abc k
  | 0, u, h, _ => by
    have : u = [] := List.length_eq_zero_iff.mp h
    subst this
    exact List.mem_singleton.mpr rfl
  | k + 1, [], h, _ => by cases h
  | k + 1, c :: u, h, hc => by
    refine List.mem_flatMap.mpr ⟨c, hc c (List.mem_cons_self ..), List.mem_map.mpr ⟨u, ?_, rfl⟩⟩
    exact mem_wordsOf (by simpa using h) fun d hd => hc d (List.mem_cons_of_mem _ hd)
theorem uptoW_len (abc : List Nat) : ∀ m, (uptoW abc m).length = Sn abc.length m
  | 0 => rfl
  | m + 1 => by
    show (uptoW abc m ++ wordsOf abc (m + 1)).length = Sn abc.length m + abc.length ^ (m + 1)
    rw [List.length_append, uptoW_len abc m, wordsOf_len]
theorem mem_uptoW {abc u : List Nat} (h0 : u ≠ []) (hc : ∀ c ∈ u, c ∈ abc) : ∀ {m : Nat}, u.length ≤ m → u ∈ uptoW abc m
  | 0, h => absurd (List.length_eq_zero_iff.mp (Nat.le_zero.mp h)) h0
  | m + 1, h => by
    refine List.mem_append.mpr ?_
    by_cases e : u.length = m + 1
    · exact Or.inr (mem_wordsOf e hc)
    · exact Or.inl (mem_uptoW h0 hc (by omega))
/-! ### different words have many letters -/
def Words (abc : List Nat) (ws : List (List Nat)) : Prop := ws.Nodup ∧ ∀ u ∈ ws, u ≠ [] ∧ ∀ c ∈ u, c ∈ abc
def cntW (m : Nat) (ws : List (List Nat)) : Nat := (ws.filter fun u => decide (u.length ≤ m)).length
def slack (w : Nat) (ws : List (List Nat)) : Nat := (ws.map fun u => w + 1 - u.length).sum
theorem cntW_le {abc : List Nat} {ws : List (List Nat)} (h : Words abc ws) (m : Nat) : cntW m ws ≤ Sn abc.length m := by
  rw [← uptoW_len]
  refine List.Nodup.length_le_of_subset (List.Pairwise.filter _ h.1) ?_
  intro u hu
  obtain ⟨h1, h2⟩ := List.mem_filter.mp hu
  obtain ⟨h3, h4⟩ := h.2 u h1
  exact mem_uptoW h3 h4 (of_decide_eq_true h2)
theorem slack_succ (w : Nat) (ws : List (List Nat)) : slack (w + 1) ws = slack w ws + cntW (w + 1) ws := by
  unfold slack cntW
  induction ws with
  | nil => rfl
  | cons u ws ih =>
    rw [List.map_cons, List.sum_cons, List.map_cons, List.sum_cons, ih]
    by_cases c : u.length ≤ w + 1
    · rw [List.filter_cons_of_pos (by simpa using c), List.length_cons]
      omega
    · rw [List.filter_cons_of_neg (by simpa using c)]
      omega
theorem slack_zero {abc : List Nat} {ws : List (List Nat)} (h : Words abc ws) : slack 0 ws = 0 := by
  unfold slack
  have : (ws.map fun u => 0 + 1 - u.length) = ws.map fun _ => 0 := by
    apply List.map_congr_left
    intro u hu
    have := (h.2 u hu).1
    have : 0 < u.length := List.length_pos_iff.mpr this
    omega
  rw [this, sum_const, Nat.mul_zero]
theorem slack_le {abc : List Nat} {ws : List (List Nat)} (h : Words abc ws) : ∀ w, slack w ws + Bn abc.length w ≤ (w + 1) * Sn abc.length w
  | 0 => by rw [slack_zero h]; exact Nat.le_refl _
  | w + 1 => by
    have ih := slack_le h w
    have hc := cntW_le h (w + 1)
    rw [slack_succ]
    have e1 : Sn abc.length (w + 1) = Sn abc.length w + abc.length ^ (w + 1) := rfl
    have e2 : Bn abc.length (w + 1) = Bn abc.length w + (w + 1) * abc.length ^ (w + 1) := rfl
    have e3 : (w + 1 + 1) * Sn abc.length (w + 1) = (w + 1) * Sn abc.length w + (w + 1) * abc.length ^ (w + 1) + Sn abc.length (w + 1) := by
      rw [Nat.add_mul (w + 1) 1, Nat.one_mul]
      congr 1
      rw [e1, Nat.mul_add]
    rw [e3, e2]
    omega
theorem len_slack (w : Nat) (ws : List (List Nat)) : (w + 1) * ws.length ≤ (ws.map List.length).sum + slack w ws := by
  unfold slack
  induction ws with
  | nil => simp
  | cons u ws ih =>
    rw [List.length_cons, Nat.mul_add, List.map_cons, List.sum_cons, List.map_cons, List.sum_cons]
    omega
theorem words_tot {abc : List Nat} {ws : List (List Nat)} (hs : 1 ≤ abc.length) (h : Words abc ws) : totF abc.length ws.length ≤ (ws.map List.length).sum := by
  obtain ⟨w, j, hc, hj, ht⟩ := totF_spec (s := abc.length) (c := ws.length) hs
  rw [ht]
  have h1 := len_slack w ws
  have h2 := slack_le h w
  rw [hc, Nat.mul_add] at h1
  omega
theorem words_most {abc : List Nat} {ws : List (List Nat)} {L : Nat} (hs : 1 ≤ abc.length) (h : Words abc ws) (hL : (ws.map List.length).sum ≤ L) : ws.length ≤ grF abc.length L := by
  have h1 := words_tot hs h
  have h2 := (grF_spec (s := abc.length) (L := L) hs).2
  by_cases c : ws.length ≤ grF abc.length L
  · exact c
  · have := totF_le (s := abc.length) (c := grF abc.length L + 1) (d := ws.length) hs (by omega)
    omega
/-! ### unlike rows have no more parts -/
theorem seg_nn {l : List Nat} {a b : Nat} : seg l ((a : Int), (b : Int)) = (l.drop a).take (b - a) := by
  show cutL l (some (a : Int)) (some (b : Int)) = _
  rw [cutL_mid (by omega) (by omega)]
  rfl
theorem ord_lens {l : List Nat} : ∀ {lo : Int} {row : Parts}, 0 ≤ lo → lo ≤ (l.length : Int) → InOrd (l.length : Int) lo row → ((((row.map (seg l)).map List.length).sum : Nat) : Int) ≤ (l.length : Int) - lo
  | lo, [], _, h1, _ => by simp; omega
  | lo, p :: r, h0, h1, h => by
    obtain ⟨a, b, c, d⟩ := h
    obtain ⟨a', ha⟩ : ∃ a' : Nat, p.1 = (a' : Int) := ⟨p.1.toNat, by omega⟩
    obtain ⟨b', hb⟩ : ∃ b' : Nat, p.2 = (b' : Int) := ⟨p.2.toNat, by omega⟩
    have ih := ord_lens (lo := p.2) (row := r) (by omega) c d
    have hp : p = ((a' : Int), (b' : Int)) := Prod.ext ha hb
    rw [List.map_cons, List.map_cons, List.sum_cons, hp, seg_nn, List.length_take, List.length_drop]
    rw [hb] at ih b c
    rw [ha] at a b
    omega
theorem row_words {l abc : List Nat} {row : Parts} (h : goodF l row = true) (hl : ∀ c ∈ l, c ∈ abc) : Words abc (row.map (seg l)) := by
  obtain ⟨h1, h2⟩ := good_iff.mp h
  refine ⟨h2, fun u hu => ?_⟩
  obtain ⟨p, hp, rfl⟩ := List.mem_map.mp hu
  obtain ⟨a, b, _, c⟩ := ord_mem h1 p hp
  obtain ⟨a', ha⟩ : ∃ a' : Nat, p.1 = (a' : Int) := ⟨p.1.toNat, by omega⟩
  obtain ⟨b', hb⟩ : ∃ b' : Nat, p.2 = (b' : Int) := ⟨p.2.toNat, by omega⟩
  have hp2 : p = ((a' : Int), (b' : Int)) := Prod.ext ha hb
  rw [hp2, seg_nn]
  refine ⟨fun z => ?_, fun c hc => hl c (List.mem_of_mem_drop (List.mem_of_mem_take hc))⟩
  have := congrArg List.length z
  rw [List.length_take, List.length_drop] at this
  simp at this
  omega
theorem good_most {l abc : List Nat} {row : Parts} (hs : 1 ≤ abc.length) (h : goodF l row = true) (hl : ∀ c ∈ l, c ∈ abc) : row.length ≤ grF abc.length l.length := by
  have h1 := ord_lens (l := l) (Int.le_refl 0) (by omega) (good_iff.mp h).1
  have h2 := words_most (L := l.length) hs (row_words h hl) (by omega)
  rw [List.length_map] at h2
  exact h2
theorem good_len {l : List Nat} {row : Parts} (h : goodF l row = true) : row.length ≤ l.length := by
  have h1 := ord_lens (l := l) (Int.le_refl 0) (by omega) (good_iff.mp h).1
  have h2 := row_words h (abc := l) fun _ h => h
  have : ∀ ws : List (List Nat), (∀ u ∈ ws, u ≠ []) → ws.length ≤ (ws.map List.length).sum := by
    intro ws
    induction ws with
    | nil => intro _; exact Nat.zero_le _
    | cons u ws ih =>
      intro hh
      have := ih fun v hv => hh v (List.mem_cons_of_mem _ hv)
      have h3 : 0 < u.length := List.length_pos_iff.mpr (hh u (List.mem_cons_self ..))
      rw [List.length_cons, List.map_cons, List.sum_cons]
      omega
  have h4 := this (row.map (seg l)) fun u hu => (h2.2 u hu).1
  rw [List.length_map] at h4
  omega
/-! ### a row of the text turned about -/
def turnP (n : Int) (p : Int × Int) : Int × Int := (n - p.2, n - p.1)
theorem turn_ord {n : Int} : ∀ {lo : Int} {row : Parts}, 0 ≤ lo → lo ≤ n → InOrd n lo row → InOrd n 0 (row.reverse.map (turnP n)) ∧ endF 0 (row.reverse.map (turnP n)) ≤ n - lo
  | lo, [], _, h1, _ => ⟨trivial, by show (0 : Int) ≤ n - lo; omega⟩
  | lo, p :: r, h0, h1, h => by
    obtain ⟨a, b, c, d⟩ := h
    obtain ⟨i1, i2⟩ := turn_ord (lo := p.2) (row := r) (by omega) c d
    rw [List.reverse_cons, List.map_append]
    show InOrd n 0 (r.reverse.map (turnP n) ++ [turnP n p]) ∧ endF 0 (r.reverse.map (turnP n) ++ [turnP n p]) ≤ n - lo
    rw [end_snoc]
    refine ⟨ord_snoc.mpr ⟨i1, i2, ?_, ?_⟩, ?_⟩
    · show n - p.2 < n - p.1
      omega
    · show n - p.1 ≤ n
      omega
    · show n - p.1 ≤ n - lo
      omega
theorem turn_seg {l : List Nat} {p : Int × Int} (h0 : 0 ≤ p.1) (h1 : p.1 < p.2) (h2 : p.2 ≤ (l.length : Int)) : seg l (turnP (l.length : Int) p) = (seg l.reverse p).reverse := by
  obtain ⟨a', ha⟩ : ∃ a' : Nat, p.1 = (a' : Int) := ⟨p.1.toNat, by omega⟩
  obtain ⟨b', hb⟩ : ∃ b' : Nat, p.2 = (b' : Int) := ⟨p.2.toNat, by omega⟩
  have hp : p = ((a' : Int), (b' : Int)) := Prod.ext ha hb
  have ht : turnP (l.length : Int) p = (((l.length - b' : Nat) : Int), ((l.length - a' : Nat) : Int)) := by
    rw [hp]
    exact Prod.ext (by show (l.length : Int) - (b' : Int) = _; omega) (by show (l.length : Int) - (a' : Int) = _; omega)
  rw [ht, hp, seg_nn, seg_nn, List.drop_reverse, List.take_reverse, List.reverse_reverse, List.length_take, List.drop_take]
  have e1 : min (l.length - a') l.length - (b' - a') = l.length - b' := by omega
  rw [e1]
theorem turn_good {l : List Nat} {row : Parts} (h : goodF l.reverse row = true) : goodF l (row.reverse.map (turnP (l.length : Int))) = true := by
  obtain ⟨h1, h2⟩ := good_iff.mp h
  rw [List.length_reverse] at h1
  refine good_iff.mpr ⟨(turn_ord (Int.le_refl 0) (by omega) h1).1, ?_⟩
  rw [List.map_map]
  have e : row.reverse.map (seg l ∘ turnP (l.length : Int)) = (row.map (seg l.reverse)).reverse.map List.reverse := by
    rw [← List.map_reverse, List.map_map]
    apply List.map_congr_left
    intro p hp
    obtain ⟨a, b, _, c⟩ := ord_mem h1 p (List.mem_reverse.mp hp)
    exact turn_seg a b c
  rw [e]
  refine List.pairwise_map.mpr (List.pairwise_reverse.mpr (List.Pairwise.imp ?_ h2))
  intro u v huv z
  exact huv (by have := congrArg List.reverse z; rw [List.reverse_reverse, List.reverse_reverse] at this; exact this.symm)
/-! ### the pieces of a cut -/
theorem tail_get {α : Type} (l : List α) (i : Nat) : l.tail[i]? = l[i + 1]? := by
  cases l with
  | nil => rfl
  | cons a l => rfl
theorem cut_words {text abc : List Nat} (hl : ∀ c ∈ text, c ∈ abc) : Words abc (piF (cutC text).1).tail ∧ (((piF (cutC text).1).tail).map List.length).sum ≤ text.length := by
  have C := cutOk text
  generalize (cutC text).1 = rows at C
  generalize (cutC text).2 = at_ at C
  have hj := C.joined
  refine ⟨⟨?_, fun u hu => ?_⟩, ?_⟩
  · refine List.pairwise_iff_getElem.mpr fun i j hi hj2 hij e => ?_
    rw [List.length_tail, piF_len] at hi hj2
    have e1 : (piF rows).getD (i + 1) [] = (piF rows).getD (j + 1) [] := by
      rw [List.getElem_tail, List.getElem_tail] at e
      rw [List.getD_eq_getElem?_getD, List.getD_eq_getElem?_getD, List.getElem?_eq_getElem (by rw [piF_len]; omega), List.getElem?_eq_getElem (by rw [piF_len]; omega), e]
    have := piF_inj C.nd C.par (i + 1) (j + 1) (by omega) (by omega) e1
    omega
  · refine ⟨fun z => ?_, fun c hc => hl c ?_⟩
    · obtain ⟨i, hi, hiu⟩ := List.getElem_of_mem hu
      rw [List.length_tail, piF_len] at hi
      rw [List.getElem_tail] at hiu
      obtain ⟨r, hr⟩ : ∃ r, rows[i]? = some r := ⟨_, List.getElem?_eq_getElem (by omega)⟩
      have := piF_row C.par hr
      rw [List.getD_eq_getElem?_getD, List.getElem?_eq_getElem (by rw [piF_len]; omega)] at this
      have h2 : (piF rows)[i + 1]'(by rw [piF_len]; omega) = (piF rows).getD r.1 [] ++ [r.2] := this
      rw [hiu, z] at h2
      simp at h2
    · rw [← hj]
      exact List.mem_append_left _ (List.mem_flatten.mpr ⟨u, hu, hc⟩)
  · have := congrArg List.length hj
    rw [List.length_append, List.length_flatten] at this
    omega
theorem cut_most {text abc : List Nat} (hs : 1 ≤ abc.length) (hl : ∀ c ∈ text, c ∈ abc) : (cutC text).1.length ≤ grF abc.length text.length := by
  obtain ⟨h1, h2⟩ := cut_words hl
  have := words_most hs h1 h2
  rw [List.length_tail, piF_len] at this
  omega
theorem sum_upto (f : Nat → Nat) (hf : ∀ i, f i ≤ i + 1) : ∀ n, 2 * ((List.range n).map f).sum ≤ n * (n + 1)
  | 0 => by simp
  | n + 1 => by
    have ih := sum_upto f hf n
    have := hf n
    rw [List.range_succ, List.map_append, List.sum_append]
    simp only [List.map_cons, List.map_nil, List.sum_cons, List.sum_nil]
    have e : (n + 1) * (n + 1 + 1) = n * (n + 1) + 2 * (n + 1) := by
      rw [Nat.mul_add (n + 1), Nat.mul_one, Nat.add_mul n 1 (n + 1)]
      omega
    omega
theorem cut_least (text : List Nat) : grF 1 text.length ≤ (cutC text).1.length := by
  have C := cutOk text
  generalize (cutC text).1 = rows at C
  generalize (cutC text).2 = at_ at C
  have hj := congrArg List.length C.joined
  rw [List.length_append, List.length_flatten] at hj
  have h1 := piF_short C.par at_ C.at_le
  have h2 := C.at_le
  have e : ((piF rows).tail).map List.length = (List.range rows.length).map fun i => ((piF rows).getD (i + 1) []).length := by
    apply List.ext_getElem?
    intro i
    rw [List.getElem?_map, List.getElem?_map, tail_get]
    by_cases c : i < rows.length
    · rw [List.getElem?_range c, List.getElem?_eq_getElem (by rw [piF_len]; omega)]
      show some _ = some ((piF rows).getD (i + 1) []).length
      rw [List.getD_eq_getElem?_getD, List.getElem?_eq_getElem (by rw [piF_len]; omega)]
      rfl
    · rw [List.getElem?_eq_none (by rw [piF_len]; omega), List.getElem?_eq_none (by rw [List.length_range]; omega)]
      rfl
  rw [e] at hj
  have key : 2 * ((List.range rows.length).map fun i => ((piF rows).getD (i + 1) []).length).sum ≤ rows.length * (rows.length + 1) := by
    have := sum_upto (fun i => min (((piF rows).getD (i + 1) []).length) (i + 1)) (fun i => Nat.min_le_right _ _) rows.length
    have e2 : ((List.range rows.length).map fun i => min (((piF rows).getD (i + 1) []).length) (i + 1)) = (List.range rows.length).map fun i => ((piF rows).getD (i + 1) []).length := by
      apply List.map_congr_left
      intro i hi
      have := piF_short C.par (i + 1) (by have := List.mem_range.mp hi; omega)
      show min _ _ = _
      omega
    rw [e2] at this
    exact this
  have hle := gr_le (grF_spec (s := 1) (L := text.length) (by decide))
  rcases hle.2 with z | z
  · omega
  · by_cases c : grF 1 text.length ≤ rows.length
    · exact c
    · have m := Nat.mul_le_mul (show rows.length ≤ grF 1 text.length - 1 by omega) (show rows.length + 3 ≤ grF 1 text.length + 2 by omega)
      have e3 : rows.length * (rows.length + 3) = rows.length * (rows.length + 1) + 2 * rows.length := by
        rw [Nat.mul_add, Nat.mul_add]
        omega
      omega
/-- the bounds at every depth -/
theorem bound_most {s L many most : Nat} (hs : 1 ≤ s) (h1 : most = grF s L) (h2 : many ≤ most) (d : Nat) : most ≤ L / (d + 1) + Sn s d ∧ (d + 1) * many ≤ L + (d + 1) * Sn s d := by
  have h := gr_depth hs (grF_spec (s := s) (L := L) hs) d
  rw [← h1] at h
  refine ⟨h, ?_⟩
  have a := Nat.mul_le_mul_left (d + 1) (Nat.le_trans h2 h)
  rw [Nat.mul_add] at a
  have b := Nat.mul_div_le L (d + 1)
  omega
end My

set_option Elab.async false
set_option linter.all false
set_option maxRecDepth 100000
set_option maxHeartbeats 4000000
namespace My
/-! ### filling room with the shorter ones first -/
def greedy : Nat → Nat → List Nat → Nat
  | _, _, [] => 0
  | w, far, c :: cs => min c (far / w) + greedy (w + 1) (far - min c (far / w) * w) cs
def wt : Nat → List Nat → Nat
  | _, [] => 0
  | w, x :: xs => w * x + wt (w + 1) xs
def Leq : List Nat → List Nat → Prop
  | [], [] => True
  | x :: xs, c :: cs => x ≤ c ∧ Leq xs cs
  | _, _ => False
theorem greedy_opt : ∀ (cs xs : List Nat) (w far e : Nat), 1 ≤ w → Leq xs cs → wt w xs ≤ far + w * e → xs.sum ≤ greedy w far cs + e
  | [], [], w, far, e, _, _, _ => by simp
  | [], x :: xs, _, _, _, _, h, _ => h.elim
  | c :: cs, [], _, _, _, _, h, _ => h.elim
  | c :: cs, x :: xs, w, far, e, hw, h, ht => by
    obtain ⟨h1, h2⟩ := h
    have ht' : w * x + wt (w + 1) xs ≤ far + w * e := ht
    show (x :: xs).sum ≤ min c (far / w) + greedy (w + 1) (far - min c (far / w) * w) cs + e
    rw [List.sum_cons]
    have hd : far / w * w ≤ far := Nat.div_mul_le_self far w
    have hm : min c (far / w) * w ≤ far := Nat.le_trans (Nat.mul_le_mul_right w (Nat.min_le_right _ _)) hd
    by_cases cx : x ≤ min c (far / w)
    · have ih := greedy_opt cs xs (w + 1) (far - min c (far / w) * w) (e + (min c (far / w) - x)) (by omega) h2 (by
        have e1 : min c (far / w) * w = w * x + w * (min c (far / w) - x) := by rw [← Nat.mul_add, Nat.mul_comm]; congr 1; omega
        have e2 : (w + 1) * (e + (min c (far / w) - x)) = w * e + w * (min c (far / w) - x) + (e + (min c (far / w) - x)) := by rw [Nat.add_mul, Nat.one_mul, Nat.mul_add]
        omega)
      omega
    · have hlt : far / w < x := by omega
      have hmin : min c (far / w) = far / w := by omega
      rw [hmin] at hm ⊢
      obtain ⟨g, hg⟩ : ∃ g, x = far / w + g := ⟨x - far / w, by omega⟩
      have hr : far < far / w * w + w := by
        have := Nat.lt_succ_self (far / w)
        have h3 := (Nat.div_lt_iff_lt_mul (by omega : 0 < w)).mp this
        rw [Nat.succ_mul] at h3
        exact h3
      rw [hg, Nat.mul_add, Nat.mul_comm w (far / w)] at ht'
      by_cases ce : g ≤ e
      · have ih := greedy_opt cs xs (w + 1) (far - far / w * w) (e - g) (by omega) h2 (by
          have e1 : w * e = w * g + w * (e - g) := by rw [← Nat.mul_add]; congr 1; omega
          have e2 : (w + 1) * (e - g) = w * (e - g) + (e - g) := by rw [Nat.add_mul, Nat.one_mul]
          omega)
        omega
      · exfalso
        have e1 : w * g = w * e + w * (g - e) := by rw [← Nat.mul_add]; congr 1; omega
        have e2 : w * 1 ≤ w * (g - e) := Nat.mul_le_mul_left w (by omega)
        omega
/-! ### words by their lengths -/
def cntL (k : Nat) (ws : List (List Nat)) : Nat := (ws.filter fun u => decide (u.length = k)).length
theorem wt_range : ∀ (n w : Nat) (f : Nat → Nat), wt w ((List.range n).map f) = ((List.range n).map fun k => (w + k) * f k).sum
  | 0, _, _ => rfl
  | n + 1, w, f => by
    rw [List.range_succ_eq_map, List.map_cons, List.map_map, List.map_cons, List.map_map, List.sum_cons]
    show w * f 0 + wt (w + 1) ((List.range n).map (f ∘ Nat.succ)) = _
    rw [wt_range n (w + 1) (f ∘ Nat.succ)]
    have : ((List.range n).map fun k => (w + 1 + k) * (f ∘ Nat.succ) k) = (List.range n).map ((fun k => (w + k) * f k) ∘ Nat.succ) := by
      apply List.map_congr_left
      intro k _
      show (w + 1 + k) * f (k + 1) = (w + (k + 1)) * f (k + 1)
      congr 1
      omega
    rw [this]
    rfl
theorem sum_add (f g : Nat → Nat) (l : List Nat) : (l.map fun k => f k + g k).sum = (l.map f).sum + (l.map g).sum := by
  induction l with
  | nil => rfl
  | cons a l ih => simp only [List.map_cons, List.sum_cons, ih]; omega
theorem sum_one (v m : Nat) : ∀ n, ((List.range n).map fun k => if m = k + 1 then v else 0).sum = if 1 ≤ m ∧ m ≤ n then v else 0
  | 0 => by rw [if_neg (by omega)]; rfl
  | n + 1 => by
    rw [List.range_succ, List.map_append, List.sum_append, sum_one v m n]
    simp only [List.map_cons, List.map_nil, List.sum_cons, List.sum_nil]
    by_cases a : m = n + 1
    · rw [if_pos a, if_neg (by omega), if_pos (by omega)]
      omega
    · rw [if_neg a]
      by_cases b : 1 ≤ m ∧ m ≤ n
      · rw [if_pos b, if_pos (by omega)]; omega
      · rw [if_neg b, if_neg (by omega)]; omega
theorem cntL_cons (k : Nat) (u : List Nat) (ws : List (List Nat)) : cntL k (u :: ws) = cntL k ws + (if u.length = k then 1 else 0) := by
  unfold cntL
  by_cases c : u.length = k
  · rw [List.filter_cons_of_pos (by simpa using c), if_pos c, List.length_cons]
  · rw [List.filter_cons_of_neg (by simpa using c), if_neg c]; rfl
theorem cnt_sum (n : Nat) : ∀ ws : List (List Nat), (∀ u ∈ ws, 1 ≤ u.length ∧ u.length ≤ n) → ((List.range n).map fun k => cntL (k + 1) ws).sum = ws.length ∧ ((List.range n).map fun k => (1 + k) * cntL (k + 1) ws).sum = (ws.map List.length).sum
  | [], _ => by
    have e1 : ((List.range n).map fun k => cntL (k + 1) []) = (List.range n).map fun _ => 0 := rfl
    have e2 : ((List.range n).map fun k => (1 + k) * cntL (k + 1) []) = (List.range n).map fun _ => 0 := by
      apply List.map_congr_left
      intro k _
      show (1 + k) * 0 = 0
      rw [Nat.mul_zero]
    rw [e1, e2, sum_const, Nat.mul_zero]
    exact ⟨rfl, rfl⟩
  | u :: ws, h => by
    obtain ⟨i1, i2⟩ := cnt_sum n ws fun v hv => h v (List.mem_cons_of_mem _ hv)
    have hu := h u (List.mem_cons_self ..)
    constructor
    · have e : ((List.range n).map fun k => cntL (k + 1) (u :: ws)) = (List.range n).map fun k => cntL (k + 1) ws + (if u.length = k + 1 then 1 else 0) := List.map_congr_left fun k _ => cntL_cons _ _ _
      rw [e, sum_add, i1, sum_one, if_pos hu, List.length_cons]
    · have e : ((List.range n).map fun k => (1 + k) * cntL (k + 1) (u :: ws)) = (List.range n).map fun k => (1 + k) * cntL (k + 1) ws + (if u.length = k + 1 then u.length else 0) := by
        apply List.map_congr_left
        intro k _
        rw [cntL_cons, Nat.mul_add]
        congr 1
        by_cases c : u.length = k + 1
        · rw [if_pos c, if_pos c, c]; omega
        · rw [if_neg c, if_neg c]; omega
      rw [e, sum_add, i2, sum_one, if_pos hu, List.map_cons, List.sum_cons]
      omega
theorem leq_map (f g : Nat → Nat) : ∀ l : List Nat, (∀ k ∈ l, f k ≤ g k) → Leq (l.map f) (l.map g)
  | [], _ => trivial
  | k :: l, h => ⟨h k (List.mem_cons_self ..), leq_map f g l fun j hj => h j (List.mem_cons_of_mem _ hj)⟩
/-- different words out of some are no more than fill the room -/
theorem fill_most {ws all : List (List Nat)} {n far : Nat} (nd : ws.Nodup) (hs : ∀ u ∈ ws, u ∈ all) (hl : ∀ u ∈ ws, 1 ≤ u.length ∧ u.length ≤ n) (hf : (ws.map List.length).sum ≤ far) :
    ws.length ≤ greedy 1 far ((List.range n).map fun k => cntL (k + 1) all) := by
  obtain ⟨h1, h2⟩ := cnt_sum n ws hl
  have h3 := greedy_opt ((List.range n).map fun k => cntL (k + 1) all) ((List.range n).map fun k => cntL (k + 1) ws) 1 far 0 (Nat.le_refl 1) (leq_map _ _ _ fun k _ => by
    refine List.Nodup.length_le_of_subset (List.Pairwise.filter _ nd) ?_
    intro u hu
    obtain ⟨a, b⟩ := List.mem_filter.mp hu
    exact List.mem_filter.mpr ⟨hs u a, b⟩) (by rw [wt_range, h2]; omega)
  rw [h1] at h3
  omega
/-! ### borders -/
def csF : Nat → List (List Nat) → List Nat
  | _, [] => []
  | at_, s :: r => at_ :: csF (at_ + s.length) r
theorem inside_seg : ∀ (ss : List (List Nat)) (at_ a b : Nat), a < b → b ≤ ss.flatten.length → (∀ c ∈ csF at_ ss, ¬ (at_ + a < c ∧ c < at_ + b)) → ∃ s ∈ ss, ∃ i, (ss.flatten.drop a).take (b - a) = (s.drop i).take (b - a) ∧ i + (b - a) ≤ s.length
  | [], _, a, b, h, hb, _ => by
    have : b ≤ 0 := hb
    omega
  | s :: r, at_, a, b, h, hb, hc => by
    rw [List.flatten_cons] at hb ⊢
    by_cases cb : b ≤ s.length
    · refine ⟨s, List.mem_cons_self .., a, ?_, by omega⟩
      rw [List.drop_append_of_le_length (by omega), List.take_append_of_le_length (by rw [List.length_drop]; omega)]
    · rw [List.length_append] at hb
      by_cases ca : s.length ≤ a
      · obtain ⟨t, ht, i, h1, h2⟩ := inside_seg r (at_ + s.length) (a - s.length) (b - s.length) (by omega) (by omega) fun c hcm hx => hc c (List.mem_cons_of_mem _ hcm) (by omega)
        refine ⟨t, List.mem_cons_of_mem _ ht, i, ?_, by omega⟩
        have e1 : b - a = b - s.length - (a - s.length) := by omega
        rw [e1, ← h1]
        congr 1
        rw [List.drop_append, List.drop_eq_nil_of_le ca, List.nil_append]
      · exfalso
        cases r with
        | nil => simp at hb; omega
        | cons t r' => exact hc (at_ + s.length) (List.mem_cons_of_mem _ (List.mem_cons_self ..)) (by omega)
/-- how many of B lie behind lo and ahead of hi -/
def betw (B : List Nat) (lo hi : Int) : Nat := (B.filter fun (b : Nat) => decide (lo < (b : Int) ∧ (b : Int) < hi)).length
theorem betw_split (B : List Nat) {lo a b hi : Int} (h1 : lo ≤ a) (h2 : a ≤ b) (h3 : b ≤ hi) : betw B a b + betw B b hi ≤ betw B lo hi := by
  unfold betw
  induction B with
  | nil => exact Nat.le_refl _
  | cons c B ih =>
    by_cases p1 : a < (c : Int) ∧ (c : Int) < b
    · rw [List.filter_cons_of_pos (by simpa using p1), List.filter_cons_of_neg (by simp; omega), List.filter_cons_of_pos (by simp; omega), List.length_cons, List.length_cons]
      omega
    · rw [List.filter_cons_of_neg (by simp only [decide_eq_true_eq]; exact p1)]
      by_cases p2 : b < (c : Int) ∧ (c : Int) < hi
      · rw [List.filter_cons_of_pos (by simpa using p2), List.filter_cons_of_pos (by simp; omega), List.length_cons, List.length_cons]
        omega
      · rw [List.filter_cons_of_neg (by simp only [decide_eq_true_eq]; exact p2)]
        by_cases p3 : lo < (c : Int) ∧ (c : Int) < hi
        · rw [List.filter_cons_of_pos (by simpa using p3), List.length_cons]
          omega
        · rw [List.filter_cons_of_neg (by simp only [decide_eq_true_eq]; exact p3)]
          exact ih
def crossB (B : List Nat) (p : Int × Int) : Bool := decide (0 < betw B p.1 p.2)
theorem cross_few {n : Int} (B : List Nat) : ∀ {lo : Int} {row : Parts}, lo ≤ n → InOrd n lo row → (row.filter (crossB B)).length ≤ betw B lo n
  | lo, [], _, _ => Nat.zero_le _
  | lo, p :: r, hl, h => by
    obtain ⟨a, b, c, d⟩ := h
    have ih := cross_few B (lo := p.2) (row := r) c d
    have hb := betw_split B a (Int.le_of_lt b) c
    by_cases cp : crossB B p = true
    · rw [List.filter_cons_of_pos cp, List.length_cons]
      have : 0 < betw B p.1 p.2 := of_decide_eq_true cp
      omega
    · rw [List.filter_cons_of_neg cp]
      omega
theorem filter_two {α : Type} (f : α → Bool) (l : List α) : l.length = (l.filter f).length + (l.filter fun x => !f x).length := by
  induction l with
  | nil => rfl
  | cons a l ih =>
    by_cases c : f a = true
    · rw [List.filter_cons_of_pos c, List.filter_cons_of_neg (by simp [c]), List.length_cons, List.length_cons]
      omega
    · rw [List.filter_cons_of_neg c, List.filter_cons_of_pos (by simp [c]), List.length_cons, List.length_cons]
      omega
theorem sum_filter_le {α : Type} (f : α → Bool) (g : α → Nat) (l : List α) : ((l.filter f).map g).sum ≤ (l.map g).sum := by
  induction l with
  | nil => exact Nat.le_refl _
  | cons a l ih =>
    by_cases c : f a = true
    · rw [List.filter_cons_of_pos c, List.map_cons, List.sum_cons, List.map_cons, List.sum_cons]
      omega
    · rw [List.filter_cons_of_neg c, List.map_cons, List.sum_cons]
      omega
/-- a row of different parts has no more than the borders and what fills the room -/
theorem row_spread {l : List Nat} {row : Parts} {ss all : List (List Nat)} {n : Nat} (hj : ss.flatten = l) (hg : goodF l row = true) (hall : ∀ s ∈ ss, ∀ i j, j ≠ 0 → i + j ≤ s.length → (s.drop i).take j ∈ all) (hn : ∀ s ∈ ss, s.length ≤ n) :
    row.length ≤ betw (csF 0 ss) 0 (l.length : Int) + greedy 1 l.length ((List.range n).map fun k => cntL (k + 1) all) := by
  obtain ⟨h1, h2⟩ := good_iff.mp hg
  rw [filter_two (crossB (csF 0 ss)) row]
  have a1 := cross_few (csF 0 ss) (by omega) h1
  have a2 := fill_most (ws := (row.filter fun x => !crossB (csF 0 ss) x).map (seg l)) (all := all) (n := n) (far := l.length) (by
    refine List.pairwise_map.mpr (List.Pairwise.filter _ ?_)
    exact List.pairwise_map.mp h2) ?_ ?_ ?_
  · rw [List.length_map] at a2
    omega
  all_goals try (
    intro u hu
    obtain ⟨p, hp, rfl⟩ := List.mem_map.mp hu
    obtain ⟨hp1, hp2⟩ := List.mem_filter.mp hp
    obtain ⟨b1, b2, _, b3⟩ := ord_mem h1 p hp1
    obtain ⟨a', ha⟩ : ∃ a' : Nat, p.1 = (a' : Int) := ⟨p.1.toNat, by omega⟩
    obtain ⟨b', hb⟩ : ∃ b' : Nat, p.2 = (b' : Int) := ⟨p.2.toNat, by omega⟩
    have hpp : p = ((a' : Int), (b' : Int)) := Prod.ext ha hb
    have hno : betw (csF 0 ss) p.1 p.2 = 0 := by
      have : crossB (csF 0 ss) p = false := by simpa using hp2
      have := of_decide_eq_false this
      omega
    obtain ⟨s, hs, i, e1, e2⟩ := inside_seg ss 0 a' b' (by omega) (by rw [hj]; omega) fun c hc hx => by
      have hm : c ∈ (csF 0 ss).filter fun (b : Nat) => decide (p.1 < (b : Int) ∧ (b : Int) < p.2) := List.mem_filter.mpr ⟨hc, by simp only [decide_eq_true_eq]; omega⟩
      rw [List.length_eq_zero_iff.mp hno] at hm
      cases hm
    rw [hj] at e1
    rw [hpp, seg_nn, e1])
  · exact hall s hs i (b' - a') (by omega) e2
  · have := hn s hs
    rw [List.length_take, List.length_drop]
    omega
  · have h3 := ord_lens (l := l) (Int.le_refl 0) (by omega) h1
    have h4 := sum_filter_le (fun x => !crossB (csF 0 ss) x) (fun p => (seg l p).length) row
    rw [List.map_map] at h3 ⊢
    have e : (row.map (List.length ∘ seg l)) = row.map fun p => (seg l p).length := rfl
    have e' : ((row.filter fun x => !crossB (csF 0 ss) x).map (List.length ∘ seg l)) = (row.filter fun x => !crossB (csF 0 ss) x).map fun p => (seg l p).length := rfl
    rw [e] at h3
    rw [e']
    omega
end My

set_option Elab.async false
set_option linter.all false
set_option maxRecDepth 100000
set_option maxHeartbeats 4000000
namespace My
theorem csF_snoc (s : List Nat) : ∀ (ss : List (List Nat)) (a : Nat), csF a (ss ++ [s]) = csF a ss ++ [a + ss.flatten.length]
  | [], a => rfl
  | t :: ss, a => by
    show a :: csF (a + t.length) (ss ++ [s]) = a :: csF (a + t.length) ss ++ [a + (t ++ ss.flatten).length]
    rw [csF_snoc s ss, List.length_append, List.cons_append, Nat.add_assoc]
theorem csF_bound : ∀ (ss : List (List Nat)) (a : Nat), (∀ s ∈ ss, s ≠ []) → ∀ c ∈ csF a ss, a ≤ c ∧ c < a + ss.flatten.length
  | [], _, _, c, hc => by cases hc
  | t :: ss, a, h, c, hc => by
    have ht : 0 < t.length := List.length_pos_iff.mpr (h t (List.mem_cons_self ..))
    rw [List.flatten_cons, List.length_append]
    rcases List.mem_cons.mp hc with rfl | hc
    · omega
    · have := csF_bound ss (a + t.length) (fun s hs => h s (List.mem_cons_of_mem _ hs)) c hc
      omega
/-- the starts behind the pieces, one more at the end -/
def brF (ps : List (List Nat)) : List Nat := csF 0 (ps.tail ++ [[]])
theorem brF_tail (ps : List (List Nat)) (x : List Nat) : csF 0 (ps.tail ++ [x]) = brF ps := by
  unfold brF
  rw [csF_snoc, csF_snoc]
/-- a row that tells pieces one behind the other -/
def movF : Nat → List (List Nat) → Parts
  | _, [] => []
  | a, s :: r => ((a : Int), (a : Int) + (s.length : Int)) :: movF (a + s.length) r
theorem movF_snoc (s : List Nat) : ∀ (ss : List (List Nat)) (a : Nat), movF a (ss ++ [s]) = movF a ss ++ [(((a + ss.flatten.length : Nat) : Int), ((a + ss.flatten.length : Nat) : Int) + (s.length : Int))]
  | [], a => rfl
  | t :: ss, a => by
    show _ :: movF (a + t.length) (ss ++ [s]) = _ :: movF (a + t.length) ss ++ _
    rw [movF_snoc s ss, List.flatten_cons, List.length_append, Nat.add_assoc]
    rfl
theorem movF_len : ∀ (ss : List (List Nat)) (a : Nat), (movF a ss).length = ss.length
  | [], _ => rfl
  | t :: ss, a => by
    show (movF (a + t.length) ss).length + 1 = ss.length + 1
    rw [movF_len ss]
theorem movF_ord {n : Nat} : ∀ (ss : List (List Nat)) (a : Nat), (∀ s ∈ ss, s ≠ []) → a + ss.flatten.length ≤ n → InOrd (n : Int) (a : Int) (movF a ss)
  | [], _, _, _ => trivial
  | t :: ss, a, h, hn => by
    have ht : 0 < t.length := List.length_pos_iff.mpr (h t (List.mem_cons_self ..))
    rw [List.flatten_cons, List.length_append] at hn
    have ih := movF_ord (n := n) ss (a + t.length) (fun s hs => h s (List.mem_cons_of_mem _ hs)) (by omega)
    exact ⟨Int.le_refl _, by show (a : Int) < (a : Int) + (t.length : Int); omega, by show (a : Int) + (t.length : Int) ≤ (n : Int); omega, ih⟩
theorem movF_segs {l : List Nat} : ∀ (ss : List (List Nat)) (a : Nat) (r : List Nat), l.drop a = ss.flatten ++ r → (movF a ss).map (seg l) = ss
  | [], _, _, _ => rfl
  | t :: ss, a, r, h => by
    rw [List.flatten_cons, List.append_assoc] at h
    show seg l ((a : Int), ((a + t.length : Nat) : Int)) :: (movF (a + t.length) ss).map (seg l) = t :: ss
    rw [seg_nn, Nat.add_sub_cancel_left, h, List.take_left, movF_segs ss (a + t.length) r (by rw [← List.drop_drop, h, List.drop_left])]
theorem ord_low {n lo lo2 : Int} {r : Parts} (h : InOrd n lo r) (hl : lo2 ≤ lo) : InOrd n lo2 r := ord_mono h (Int.le_refl _) hl
/-- the pieces of a window are unlike stretches of the text -/
theorem moved_good {text wdw : List Nat} {a : Nat} {r : List Nat} (h : text.drop a = wdw ++ r) (ha : a ≤ text.length) : goodF text (movF a (piF (cutC wdw).1).tail) = true := by
  obtain ⟨h1, h2⟩ := cut_words (text := wdw) (abc := wdw) fun c hc => hc
  have C := (cutOk wdw).joined
  rw [← C, List.append_assoc] at h
  have hl := congrArg List.length h
  rw [List.length_drop, List.length_append] at hl
  refine good_iff.mpr ⟨ord_low (movF_ord _ a (fun s hs => (h1.2 s hs).1) (by omega)) (by omega), ?_⟩
  rw [movF_segs _ a _ h]
  exact h1.1
/-! ### what was read ahead is the beginning -/
theorem step_pre (s : List (Nat × Nat) × Nat) (c : Nat) : ∃ t, (stepC s c).1 = s.1 ++ t := by
  unfold stepC
  split
  · exact ⟨[], (List.append_nil _).symm⟩
  · exact ⟨_, rfl⟩
theorem fold_pre : ∀ (cs : List Nat) (s : List (Nat × Nat) × Nat), ∃ t, (cs.foldl stepC s).1 = s.1 ++ t
  | [], s => ⟨[], (List.append_nil _).symm⟩
  | c :: cs, s => by
    obtain ⟨t1, h1⟩ := step_pre s c
    obtain ⟨t2, h2⟩ := fold_pre cs (stepC s c)
    exact ⟨t1 ++ t2, by rw [List.foldl_cons, h2, h1, List.append_assoc]⟩
theorem cut_pre (a b : List Nat) : ∃ t, (cutC (a ++ b)).1 = (cutC a).1 ++ t := by
  unfold cutC
  rw [List.foldl_append]
  exact fold_pre b _
theorem cut_take (text : List Nat) (i : Nat) : (cutC (text.take i)).1 = (cutC text).1.take (cutC (text.take i)).1.length := by
  obtain ⟨t, h⟩ := cut_pre (text.take i) (text.drop i)
  rw [List.take_append_drop] at h
  rw [h, List.take_left]
theorem cut_take_le (text : List Nat) (i : Nat) : (cutC (text.take i)).1.length ≤ (cutC text).1.length := by
  obtain ⟨t, h⟩ := cut_pre (text.take i) (text.drop i)
  rw [List.take_append_drop] at h
  rw [h, List.length_append]
  omega
/-! ### the spread -/
/-- the words inside pieces, each once -/
def Facs (ps all : List (List Nat)) : Prop := all.Nodup ∧ ∀ u, u ∈ all ↔ u ≠ [] ∧ ∃ p ∈ ps, ∃ i, i + u.length ≤ p.length ∧ (p.drop i).take u.length = u
theorem cntL_same {A B : List (List Nat)} (ha : A.Nodup) (hb : B.Nodup) (h : ∀ u, u ∈ A ↔ u ∈ B) (k : Nat) : cntL k A = cntL k B := by
  have one : ∀ {A B : List (List Nat)}, A.Nodup → (∀ u, u ∈ A → u ∈ B) → cntL k A ≤ cntL k B := fun ha h => by
    refine List.Nodup.length_le_of_subset (List.Pairwise.filter _ ha) ?_
    intro u hu
    obtain ⟨a, b⟩ := List.mem_filter.mp hu
    exact List.mem_filter.mpr ⟨h u a, b⟩
  exact Nat.le_antisymm (one ha fun u => (h u).mp) (one hb fun u => (h u).mpr)
theorem facs_same {ps A B : List (List Nat)} (ha : Facs ps A) (hb : Facs ps B) (k : Nat) : cntL k A = cntL k B := cntL_same ha.1 hb.1 (fun u => (ha.2 u).trans (hb.2 u).symm) k
/-- no row of unlike stretches has more than the borders and the fill -/
theorem text_spread {text : List Nat} {row : Parts} {all : List (List Nat)} {n : Nat} (hg : goodF text row = true) (hF : Facs (piF (cutC text).1) all) (hn : ∀ p ∈ piF (cutC text).1, p.length ≤ n) :
    row.length ≤ betw (brF (piF (cutC text).1)) 0 (text.length : Int) + greedy 1 text.length ((List.range n).map fun k => cntL (k + 1) all) := by
  have C := cutOk text
  generalize (cutC text).1 = rows at C hF hn ⊢
  generalize (cutC text).2 = at_ at C
  have hp : (piF rows).getD at_ [] ∈ piF rows := by
    have := C.at_le
    rw [List.getD_eq_getElem?_getD, List.getElem?_eq_getElem (by rw [piF_len]; omega)]
    exact List.getElem_mem _
  have hm : ∀ s ∈ (piF rows).tail ++ [(piF rows).getD at_ []], s ∈ piF rows := by
    intro s hs
    rcases List.mem_append.mp hs with h | h
    · exact List.mem_of_mem_tail h
    · rw [List.mem_singleton.mp h]; exact hp
  rw [← brF_tail (piF rows) ((piF rows).getD at_ [])]
  refine row_spread (ss := (piF rows).tail ++ [(piF rows).getD at_ []]) (by rw [List.flatten_append, List.flatten_cons, List.flatten_nil, List.append_nil]; exact C.joined) hg ?_ fun s hs => hn s (hm s hs)
  intro s hs i j hj hij
  have hl : ((s.drop i).take j).length = j := by rw [List.length_take, List.length_drop]; omega
  refine (hF.2 _).mpr ⟨fun z => ?_, s, hm s hs, i, by rw [hl]; exact hij, by rw [hl]⟩
  rw [z] at hl
  exact hj hl.symm
end My

set_option Elab.async false
set_option linter.all false
set_option maxRecDepth 100000
set_option maxHeartbeats 4000000
namespace My
open PySem PySem.Spec PyProof.Rows L2 Evl
open SX (S S_len S_cat S_beq S_beq_eq S_inj S_tl)
/-! ### xs[i] += y -/
def rGetL (K : PySem.W.Frag) : V → V → Hp → VK → Prop := fun o i H Q => ∃ p xs k x, o = .ref p ∧ i = .int ((k : Nat) : Int) ∧ SqL K H p xs ∧ xs[k]? = some x ∧ Q x H
theorem pget_list {X : Cx} : PGet X (rGetL X.K) := by
  intro pins s σ H o i ov iv Q I ro ri h
  obtain ⟨p, xs, k, x, rfl, rfl, hq, he, q⟩ := h
  cases ro
  obtain ⟨t, rfl⟩ := ri
  obtain ⟨its, r, pl, hz⟩ := I.list hq
  obtain ⟨w, ew, rw'⟩ := r.get he
  have hn := line63
  have hl := r.length
  have hk := (List.getElem?_eq_some_iff.mp he).1
  exact wpAny_getItem_list pl.isList (by omega) (by omega) (by simpa using ew) ⟨x, H, I, rw', q⟩
section
variable {K : PySem.W.Frag} {σ : L2.St} {H : Hp} {ta tb te tl : TE} {x y v : V} {D : Ends} {tu tz : TS}
theorem s_augSL {to ti : TE} {p : Addr} {ns : List Nat} {k : Nat} {m : Nat} (ho : Ev to σ H (.ref p)) (hi : Ev ti σ H (.int ((k : Nat) : Int))) (he : Ev te σ H (.int (m : Int))) (hp : H p = some (.lst (nV ns))) (hk : k < ns.length)
    (q : ∀ H1, Ex H H1 → D.nx σ (upd H1 p (.lst (nV (ns.set k (ns.getD k 0 + m)))))) : tAugS to ti te (rGetL K) (ipI fun i j => i + j) rSetL D σ H :=
  ho H (Ex.refl H) _ fun H1 e1 => hi H1 e1 _ fun H2 e2 => ⟨p, nV ns, k, .int (ns.getD k 0 : Nat), rfl, rfl, sq_of (e2 _ _ (e1 _ _ hp)), by
    rw [List.getElem?_map, List.getElem?_eq_getElem hk, List.getD_eq_getElem?_getD, List.getElem?_eq_getElem hk]; rfl, he H2 (e1.trans e2) _ fun H3 e3 => ⟨_, _, rfl, rfl, p, nV ns, k, k, rfl, rfl, e3 _ _ (e2 _ _ (e1 _ _ hp)), by
    unfold ixN
    rw [nV_len, if_pos (by omega), if_pos (by omega)]
    simp, by
    have e : (nV ns).set k (.int ((ns.getD k 0 : Nat) + (m : Int))) = nV (ns.set k (ns.getD k 0 + m)) := by
      show (ns.map fun (n : Nat) => V.int (n : Int)).set k (V.int ((ns.getD k 0 + m : Nat) : Int)) = _
      rw [← List.map_set]
    rw [e]
    exact q H3 ((e1.trans e2).trans e3)⟩⟩
/-- for k in d -/
theorem s_forKeys {i j : Nat} {d : Addr} {kvs : List (Key × V)} (hv : σ[i]? = some (some (.ref d))) (hd : H d = some (.dK kvs)) (Pv : Obj → Nat → L2.St → Hp → Prop) (h0 : ∀ od, Pv od 0 σ (upd H d (.frz od (.dK kvs))))
    (hl : ∀ od n σ' H', Pv od n σ' H' → H' d = some (.frz od (.dK kvs)))
    (hs : ∀ od n k z σ' H', kvs[n]? = some (k, z) → Pv od n σ' H' → ∀ D' : Ends, (∀ σ2 H2, Pv od (n + 1) σ2 H2 → D'.nx σ2 H2) → tu D' (σ'.set j (some (kV k))) H')
    (hd2 : ∀ od σ' H', Pv od kvs.length σ' H' → D.nx σ' (upd H' d (.dK kvs))) : tLock (tFor (iKeys (tVar i)) (gName j) tu) D σ H :=
  ⟨d, .dK kvs, hd, trivial, fun od => ⟨.ref d, hv, d, od, rfl, Or.inl ⟨kvs, upd_same, fun n m σ' H' => m = kvs.length - n ∧ n ≤ kvs.length ∧ Pv od n σ' H', ⟨kvs.length, by simp, Nat.zero_le _, h0 od⟩, by
    rintro n m σ' H' ⟨rfl, hn, p⟩
    by_cases hlt : n < kvs.length
    · refine .inr ⟨⟨hl _ _ _ _ p, hlt⟩, Pv od (n + 1), fun σ2 H2 p2 => ⟨kvs.length - (n + 1), by omega, rfl, hlt, p2⟩, fun y H2 hy => ?_⟩
      obtain ⟨rfl, k, z, hk, rfl⟩ := hy
      exact hs od n k z σ' H2 hk p _ fun σ2 H3 p3 => p3
    · have e1 : n = kvs.length := by omega
      subst e1
      exact .inl ⟨⟨hl _ _ _ _ p, Nat.le_refl _⟩, hl _ _ _ _ p, hd2 od σ' H' p⟩⟩⟩⟩
theorem el_lcT {a : Addr} {xs : List V} {t : L2.TT} {j : Nat} {vs : List Nat} (f : Nat → Bool) (v : Nat → V) (h : Ev tl σ H (.ref a)) (hx : SqT K H a xs) (hz : xs.length ≤ 40000) (hw : ∀ x, wipe ((wipe σ vs).set j (some x)) vs = wipe σ vs)
    (ht : ∀ (i : Nat) (x : V) H1, Ex H H1 → xs[i]? = some x → EvT t ((wipe σ vs).set j (some x)) H1 (f i)) (he : ∀ (i : Nat) (x : V) H1, Ex H H1 → xs[i]? = some x → f i = true → Ev te ((wipe σ vs).set j (some x)) H1 (v i)) :
    EvL (tLc (iTup K tl) (gName j) t te vs) σ H (given xs.length f v) := fun H0 e Q q => h H0 e _ fun H1 e1 => ⟨a, rfl, ⟨xs, ex_t (e.trans e1) hx⟩, fun Dl hD =>
  lc_tup (xs := xs) (Cw H1 f v Dl) ⟨hD, Ex.new hD, upd_same⟩ (fun i H' _ p => ex_t ((e.trans e1).trans p.2.1) hx) (fun i x H' hi p => ⟨hw x, cw_turn p (by have := (List.getElem?_eq_some_iff.mp hi).1; omega) (ht i x H1 (e.trans e1) hi) (fun hf => he i x H1 (e.trans e1) hi hf)⟩)
    (fun H' p => q Dl H' (fresh_back e1 p.1) (e1.trans p.2.1) p.2.2)⟩
end
/-! ### a dict of words -/
def tKV (ws : List (List Nat)) : List (Key × V) := ws.map fun w => (Sum.inr (S w), .bl true)
theorem tKV_at (w : List Nat) : ∀ ws : List (List Nat), valV (tKV ws) (Sum.inr (S w) : Key) = if w ∈ ws then some (.bl true) else none
  | [] => rfl
  | u :: ws => by
    show valV ((Sum.inr (S u), V.bl true) :: tKV ws) _ = _
    by_cases c : u = w
    · subst c
      rw [valV_pos rfl, if_pos (List.mem_cons_self ..)]
    · rw [valV_neg (fun z => c (S_inj (Sum.inr.inj z))), tKV_at w ws]
      by_cases m : w ∈ ws
      · rw [if_pos m, if_pos (List.mem_cons_of_mem _ m)]
      · rw [if_neg m, if_neg (fun z => (List.mem_cons.mp z).elim (fun e => c e.symm) m)]
def insW (ws : List (List Nat)) (w : List Nat) : List (List Nat) := if w ∈ ws then ws else ws ++ [w]
theorem insW_mem {ws : List (List Nat)} {w u : List Nat} : u ∈ insW ws w ↔ u ∈ ws ∨ u = w := by
  unfold insW
  by_cases m : w ∈ ws
  · rw [if_pos m]
    exact ⟨Or.inl, fun h => h.elim id fun e => e ▸ m⟩
  · rw [if_neg m, List.mem_append, List.mem_singleton]
theorem insW_nodup {ws : List (List Nat)} {w : List Nat} (h : ws.Nodup) : (insW ws w).Nodup := by
  unfold insW
  by_cases m : w ∈ ws
  · rw [if_pos m]; exact h
  · rw [if_neg m]; exact nodup_snoc h m
theorem insW_len (ws : List (List Nat)) (w : List Nat) : (insW ws w).length ≤ ws.length + 1 := by
  unfold insW
  split
  · omega
  · rw [List.length_append]; exact Nat.le_refl _
theorem putK_tKV (w : List Nat) : ∀ ws : List (List Nat), putK (tKV ws) (Sum.inr (S w) : Key) (.bl true) = tKV (insW ws w) := by
  intro ws
  by_cases m : w ∈ ws
  · have e : insW ws w = ws := if_pos m
    rw [e]
    unfold putK
    have ha : ((tKV ws).any fun kv => decide (kv.1 = (Sum.inr (S w) : Key))) = true := List.any_eq_true.mpr ⟨(Sum.inr (S w), .bl true), List.mem_map.mpr ⟨w, m, rfl⟩, decide_eq_true rfl⟩
    rw [if_pos ha]
    refine (List.map_congr_left fun kv hkv => ?_).trans (List.map_id _)
    obtain ⟨u, _, rfl⟩ := List.mem_map.mp hkv
    show (if (Sum.inr (S u) : Key) = Sum.inr (S w) then ((Sum.inr (S u) : Key), V.bl true) else (Sum.inr (S u), V.bl true)) = (Sum.inr (S u), V.bl true)
    split <;> rfl
  · have e : insW ws w = ws ++ [w] := if_neg m
    have hv : valV (tKV ws) (Sum.inr (S w) : Key) = none := by rw [tKV_at, if_neg m]
    rw [e, putK_new _ hv]
    simp [tKV]
end My

set_option Elab.async false
set_option linter.all false
set_option maxRecDepth 100000
set_option maxHeartbeats 4000000
namespace My
open PySem PySem.Spec PyProof.Rows L2 Evl
open SX (S S_len S_cat S_beq S_beq_eq S_inj S_tl)
/-! ### text.index(letter), xs.insert(i, y), a comprehension over enumerate(new tuple), rows walked -/
theorem idx_occ {abc : List Nat} {c : Nat} (nd : abc.Nodup) (h : c ∈ abc) : ∃ rest, Builtin.Str.occurrences (S abc) (S [c]) 0 (S abc).length 1 = abc.idxOf c :: rest := by
  have h1 := SX.in_one abc c
  rw [decide_eq_true h] at h1
  cases hm : Builtin.Str.occurrences (S abc) (S [c]) 0 (S abc).length 1 with
  | nil => rw [hm] at h1; exact absurd h1 (by decide)
  | cons k t =>
    have hk : k ∈ Builtin.Str.occurrences (S abc) (S [c]) 0 (S abc).length 1 := by rw [hm]; exact List.mem_cons_self ..
    obtain ⟨h2, h3⟩ := PySem.StrLaws.occ_spec _ _ _ _ _ _ hk
    rw [PySem.StrLaws.subAt_eq] at h3
    have h4 := eq_of_beq h3
    rw [S_len] at h4 h2
    rw [S_len] at h2
    have hlt : k < abc.length := by
      have : ([c] : List Nat).length = 1 := rfl
      omega
    have h5 : (abc.drop k).take 1 = [c] := h4
    have h6 : abc[k] = c := by
      rw [List.drop_eq_getElem_cons hlt] at h5
      injection h5
    have h7 : abc.idxOf abc[k] = k := List.Nodup.idxOf_getElem nd k hlt
    rw [h6] at h7
    exact ⟨t, by rw [h7]⟩
section
variable {K : PySem.W.Frag} {σ : L2.St} {H : Hp} {ta tb te tl : TE} {x y v : V} {D : Ends} {tu tz : TS} {t : L2.TT}
theorem q_asgP2 {i j : Nat} {xs ys : V} {tz : TS} (h : EvU te σ H [xs, ys]) (k : ∀ H1, Ex H H1 → tz D ((σ.set i (some xs)).set j (some ys)) H1) : tSeq (tAsg te (gTup K 2 (gCons (gName i) (gCons (gName j) gNil)))) tz D σ H :=
  h H (Ex.refl H) _ fun p H1 _ e1 hp => g_two hp (k H1 e1)
theorem q_asgV2 {i j : Nat} {r : Addr} {xs ys : V} {tz : TS} (h : Ev te σ H (.ref r)) (hr : H r = some (.tup [xs, ys])) (k : ∀ H1, Ex H H1 → tz D ((σ.set i (some xs)).set j (some ys)) H1) : tSeq (tAsg te (gTup K 2 (gCons (gName i) (gCons (gName j) gNil)))) tz D σ H :=
  h H (Ex.refl H) _ fun H1 e1 => g_two (e1 _ _ hr) (k H1 e1)
theorem q_par {i j : Nat} {xs ys : V} {tz : TS} {ta : TA} (h : EvA ta σ H [xs, ys]) (k : ∀ H1, Ex H H1 → tz D ((σ.set i (some xs)).set j (some ys)) H1) : tSeq (tPar i j ta) tz D σ H :=
  h H (Ex.refl H) _ fun H1 e1 => ⟨xs, ys, rfl, k H1 e1⟩
theorem ev_joinX {p : Addr} {ls : List (List Nat)} (ho : Ev ta σ H (.str (S []))) (hb : Ev tb σ H (.ref p)) (hS : SqL K H p (sV ls)) (hz : (ls.map List.length).sum ≤ 1000000) : Ev (tM1 (rJoin K) ta tb) σ H (.str (S ls.flatten)) := fun H1 e Q q =>
  ho H1 e _ fun H2 e2 => ⟨⟨_, rfl⟩, hb H2 (e.trans e2) _ fun H3 e3 => ⟨S [], p, ls.map S, rfl, rfl, Or.inl (by rw [List.map_map]; exact ex_l ((e.trans e2).trans e3) hS), by
    rw [SX.lens, List.length_map]
    have : (S ([] : List Nat)).length = 0 := rfl
    rw [this, Nat.mul_zero]
    exact Nat.le_trans hz (by decide), by
    rw [SX.join_S, joinL_nil]
    exact q H3 (e2.trans e3)⟩⟩
theorem q_asgMake {C : Addr} {sp : Sp} {t : TA} {vs : List V} {i : Nat} {tz : TS} (h : EvA t σ H vs) (k : ∀ H1, Ex H H1 → ∀ x dx, H1 x = none → H1 dx = none → dx ≠ x → sp (.ref x :: vs) (upd (upd H1 dx (.own x)) x (.ins C dx [])) (fun v H2 => v = .non ∧ tz D (σ.set i (some (.ref x))) H2) E0) : tSeq (tAsg (tMake C sp [] E0 t) (gName i)) tz D σ H :=
  h H (Ex.refl H) _ fun H1 e1 x dx hx hd hn => by
    show sp (.ref x :: (vs ++ [])) _ _ _
    rw [List.append_nil]
    exact k H1 e1 x dx hx hd hn
def rSIdx : V → List V → Hp → VK → Prop := fun x xs H Q => ∃ a b i rest, x = .str a ∧ xs = [.str b] ∧ Builtin.Str.occurrences a b 0 a.length 1 = i :: rest ∧ Q (.int (i : Nat)) H
theorem ev_sidx {abc : List Nat} {c : Nat} (ha : Ev ta σ H (.str (S abc))) (hb : Ev tb σ H (.str (S [c]))) (nd : abc.Nodup) (h : c ∈ abc) : Ev (tBM K "str" rSIdx ta (tCons tb tNil)) σ H (.int (abc.idxOf c : Nat)) := fun H1 e Q q =>
  ha H1 e _ fun H2 e2 => ⟨rfl, hb H2 (e.trans e2) _ fun H3 e3 => by
    obtain ⟨rest, ho⟩ := idx_occ nd h
    exact ⟨S abc, S [c], _, rest, rfl, rfl, ho, q H3 (e2.trans e3)⟩⟩
def rIns : V → List V → Hp → VK → Prop := fun x vs H Q => ∃ (l : Addr) (xs : List V) (i : Int) (y : V), x = .ref l ∧ vs = [.int i, y] ∧ H l = some (.lst xs) ∧ xs.length < sizeLine ∧ 0 ≤ i ∧ i < 2 ^ 63 ∧ Q .non (upd H l (.lst (xs.take i.toNat ++ [y] ++ xs.drop i.toNat)))
theorem s_ins {ti : TE} {l : Addr} {xs : List V} {i : Nat} {y : V} (ha : Ev ta σ H (.ref l)) (hi : Ev ti σ H (.int (i : Int))) (hb : Ev tb σ H y) (hl : H l = some (.lst xs)) (hz : xs.length < 100000) (hi2 : i ≤ 1000000)
    (q : ∀ H1, Ex H H1 → D.nx σ (upd H1 l (.lst (xs.take i ++ [y] ++ xs.drop i)))) : tDrop (tBM K "list" rIns ta (tCons ti (tCons tb tNil))) D σ H :=
  ha H (Ex.refl H) _ fun H1 e1 => ⟨.inl ⟨rfl, xs, sq_of (e1 _ _ hl)⟩, hi H1 e1 _ fun H2 e2 => hb H2 (e1.trans e2) _ fun H3 e3 => ⟨l, xs, (i : Int), y, rfl, rfl, ((e1.trans e2).trans e3) _ _ hl, sz_lt hz, by omega, by
    have : (1000000 : Int) < 2 ^ 63 := by decide
    omega, by
    rw [Int.toNat_natCast]
    exact q H3 ((e1.trans e2).trans e3)⟩⟩
theorem el_lcET {i j : Nat} {xs : List V} {vs : List Nat} (f : Nat → Bool) (v : Nat → V) (h : EvU tl σ H xs) (hz : xs.length ≤ 40000) (hw : ∀ x y, wipe (((wipe σ vs).set i (some x)).set j (some y)) vs = wipe σ vs)
    (ht : ∀ (n : Nat) (x : V) H1, Ex H H1 → xs[n]? = some x → EvT t (((wipe σ vs).set i (some (.int (n : Int)))).set j (some x)) H1 (f n))
    (he : ∀ (n : Nat) (x : V) H1, Ex H H1 → xs[n]? = some x → f n = true → Ev te (((wipe σ vs).set i (some (.int (n : Int)))).set j (some x)) H1 (v n)) :
    EvL (tLc (iEnumT K (tCons tl tNil)) (gTup K 2 (gCons (gName i) (gCons (gName j) gNil))) t te vs) σ H (given xs.length f v) := fun H0 e Q q => h H0 e _ fun a H1 na e1 ha => ⟨a, xs, rfl, st_of ha, fun Dl hD =>
  ⟨fun n m H => m = xs.length - n ∧ n ≤ xs.length ∧ Cw H1 f v Dl n H, ⟨xs.length, by simp, Nat.zero_le _, hD, Ex.new hD, upd_same⟩, by
    rintro n m H' ⟨rfl, hn, p⟩
    by_cases hlt : n < xs.length
    · refine .inr ⟨⟨xs, xs[n], st_of (p.2.1 _ _ ha), List.getElem?_eq_getElem hlt⟩, Cw H1 f v Dl (n + 1), fun H2 p2 => ⟨xs.length - (n + 1), by omega, rfl, hlt, p2⟩, fun y H2 hy => ?_⟩
      obtain ⟨T, x, rfl, hT, rfl, hc⟩ := hy
      have hx := hc xs (st_of (p.2.1 _ _ ha))
      have nT : T ≠ Dl := fun z => by rw [z, p.2.2] at hT; cases hT
      have p2 : Cw H1 f v Dl n (upd H' T (.tup [.int (n : Nat), x])) := ⟨p.1, p.2.1.trans (Ex.new hT), by rw [upd_ne nT.symm]; exact p.2.2⟩
      exact g_two upd_same ⟨hw _ _, cw_turn p2 (by omega) (ht n x H1 (e.trans e1) hx) (fun hf => he n x H1 (e.trans e1) hx hf)⟩
    · have e9 : n = xs.length := by omega
      subst e9
      exact .inl ⟨⟨xs, st_of (p.2.1 _ _ ha), Nat.le_refl _⟩, q Dl H' (fresh_back e1 p.1) (e1.trans p.2.1) p.2.2⟩⟩⟩
end
/-! ### an object of free places -/
def NoF (fs : List (Str × V)) : Prop := fs.lookup ("number_of" : Str) = none ∧ fs.lookup ("row_at" : Str) = none ∧ fs.lookup ("take" : Str) = none ∧ fs.lookup ("_code_of" : Str) = none ∧ fs.lookup ("_taken_below" : Str) = none
theorem NoF.put {fs : List (Str × V)} (h : NoF fs) (f : Str) (v : V) (h1 : ¬ f = "number_of" := by decide +kernel) (h2 : ¬ f = "row_at" := by decide +kernel) (h3 : ¬ f = "take" := by decide +kernel) (h4 : ¬ f = "_code_of" := by decide +kernel) (h5 : ¬ f = "_taken_below" := by decide +kernel) : NoF (putF f v fs) := by
  refine ⟨?_, ?_, ?_, ?_, ?_⟩ <;> rw [lookup_putF]
  · rw [if_neg (fun z => h1 z.symm)]; exact h.1
  · rw [if_neg (fun z => h2 z.symm)]; exact h.2.1
  · rw [if_neg (fun z => h3 z.symm)]; exact h.2.2.1
  · rw [if_neg (fun z => h4 z.symm)]; exact h.2.2.2.1
  · rw [if_neg (fun z => h5 z.symm)]; exact h.2.2.2.2
structure FpAt (CF : Addr) (H : Hp) (p l : Addr) (abc : List Nat) (ts : List Nat) : Prop where
  ob : ∃ dx fs, H p = some (.ins CF dx fs) ∧ fs.lookup ("_alphabet" : Str) = some (.str (S abc)) ∧ fs.lookup ("_taken" : Str) = some (.ref l) ∧ NoF fs ∧ fs.length < 900
  ls : H l = some (.lst (nV ts))
theorem FpAt.ex {CF : Addr} {H H' : Hp} {p l : Addr} {abc ts : List Nat} (e : Ex H H') (G : FpAt CF H p l abc ts) : FpAt CF H' p l abc ts := by
  obtain ⟨dx, fs, h, r⟩ := G.ob
  exact ⟨⟨dx, fs, e _ _ h, r⟩, e _ _ G.ls⟩
theorem FpAt.ne {CF : Addr} {H : Hp} {p l : Addr} {abc ts : List Nat} (G : FpAt CF H p l abc ts) : p ≠ l := by
  obtain ⟨dx, fs, h, _⟩ := G.ob
  intro z
  rw [z, G.ls] at h
  cases Option.some.inj h
theorem FpAt.new {CF : Addr} {H : Hp} {p l : Addr} {abc ts us : List Nat} (G : FpAt CF H p l abc ts) : FpAt CF (upd H l (.lst (nV us))) p l abc us := by
  obtain ⟨dx, fs, h, r⟩ := G.ob
  exact ⟨⟨dx, fs, by rw [upd_ne G.ne]; exact h, r⟩, upd_same⟩
theorem FpAt.off {CF : Addr} {H : Hp} {p l a : Addr} {abc ts : List Nat} {o : HO} (G : FpAt CF H p l abc ts) (h1 : p ≠ a) (h2 : l ≠ a) : FpAt CF (upd H a o) p l abc ts := by
  obtain ⟨dx, fs, h, r⟩ := G.ob
  exact ⟨⟨dx, fs, by rw [upd_ne h1]; exact h, r⟩, by rw [upd_ne h2]; exact G.ls⟩
theorem nV_takF (ts : List Nat) (c : Nat) : (nV ts).take (belF ts c) ++ [V.int (c : Int)] ++ (nV ts).drop (belF ts c) = nV (takF ts c) := by
  unfold takF nV
  rw [List.map_append, List.map_append, List.map_take, List.map_drop]
  rfl
end My

set_option Elab.async false
set_option linter.all false
set_option maxRecDepth 100000
set_option maxHeartbeats 4000000
namespace My
open PySem PySem.Spec PyProof.Rows L2 Evl
open SX (S S_len S_cat S_beq S_beq_eq S_inj S_tl)
theorem cB (s w : Nat) : ((Bn s w : Nat) : Int) + ((s ^ (w + 1) : Nat) : Int) * ((w + 1 : Nat) : Int) = ((Bn s (w + 1) : Nat) : Int) := by
  rw [← Int.natCast_mul, ← Int.natCast_add]
  congr 1
  show Bn s w + s ^ (w + 1) * (w + 1) = Bn s w + (w + 1) * s ^ (w + 1)
  rw [Nat.mul_comm]
theorem cS (s w : Nat) : ((Sn s w : Nat) : Int) + ((s ^ (w + 1) : Nat) : Int) = ((Sn s (w + 1) : Nat) : Int) := by
  rw [← Int.natCast_add]
  rfl
theorem cP (s w : Nat) : ((s ^ (w + 1) : Nat) : Int) * ((s : Nat) : Int) = ((s ^ (w + 1 + 1) : Nat) : Int) := by
  rw [← Int.natCast_mul]
  rfl
theorem cN (w : Nat) : ((w + 1 : Nat) : Int) + 1 = ((w + 1 + 1 : Nat) : Int) := by omega
theorem tri_cast (c : Nat) : ((c : Int) * ((c : Int) + 1)) / 2 = ((c * (c + 1) / 2 : Nat) : Int) := by
  rw [Int.natCast_ediv, Int.natCast_mul, Int.natCast_add]
  rfl
theorem capN {c : Nat} (h : c ≤ cap) : ((c : Nat) : Int).natAbs < 2 ^ 1000 := by
  have a := cap_lt
  have b : (2 : Nat) ^ 101 < 2 ^ 1000 := by decide +kernel
  rw [Int.natAbs_natCast]
  omega
theorem capN1 {c : Nat} (h : c ≤ cap) : ((c : Nat) : Int).natAbs + 10 < 2 ^ 1000 := by
  have a := cap_lt
  have b : (2 : Nat) ^ 101 + 10 < 2 ^ 1000 := by decide +kernel
  rw [Int.natAbs_natCast]
  omega
section
variable {P : Program} {w : World} {K : PySem.W.Frag} {mg : Str → Option Value} {base : Heap}
section
variable {K : PySem.W.Frag} {σ : L2.St} {H : Hp} {ta tb te tl : TE} {x y v : V}
theorem ev_takeS {m : List Nat} {n : Nat} (h : Ev te σ H (.str (S m))) (hn : Ev ta σ H (.int (n : Int))) (hz : m.length ≤ 1000000) : Ev (tSl rSlS te tNoPart (tPart ta)) σ H (.str (S (m.take n))) := by
  have := ev_slS (H := H) (te := te) (tl := tNoPart) (th := tPart ta) (σ := σ) h eo_none (eo_some hn) hz
  rwa [cutL_to (by omega), Int.toNat_natCast] at this
theorem ev_dropS {m : List Nat} {n : Nat} (h : Ev te σ H (.str (S m))) (hn : Ev ta σ H (.int (n : Int))) (hz : m.length ≤ 1000000) : Ev (tSl rSlS te (tPart ta) tNoPart) σ H (.str (S (m.drop n))) := by
  have := ev_slS (H := H) (te := te) (tl := tPart ta) (th := tNoPart) (σ := σ) h (eo_some hn) eo_none hz
  rwa [cutL_from (by omega), Int.toNat_natCast] at this
end
theorem abc_take {t : List Nat} {i : Nat} {c : Nat} (h : t[i]? = some c) (h1 : ∀ x ∈ t.take i, x ∈ L36c) (h2 : (t.take i).Pairwise (· < ·)) (hc : c ∈ L36c) (hl : ∀ a, 1 ≤ i → t[i - 1]? = some a → a < c) : (∀ x ∈ t.take (i + 1), x ∈ L36c) ∧ (t.take (i + 1)).Pairwise (· < ·) := by
  have e : t.take (i + 1) = t.take i ++ [c] := by rw [List.take_add_one, h]; rfl
  have hi := (List.getElem?_eq_some_iff.mp h).1
  rw [e]
  refine ⟨fun x hx => ?_, List.pairwise_append.mpr ⟨h2, List.pairwise_singleton _ _, fun a ha b hb => ?_⟩⟩
  · rcases List.mem_append.mp hx with hx | hx
    · exact h1 x hx
    · rw [List.mem_singleton.mp hx]; exact hc
  · rw [List.mem_singleton.mp hb]
    obtain ⟨j, hj, rfl⟩ := List.mem_iff_getElem.mp ha
    rw [List.length_take] at hj
    have hlast := hl (t[i - 1]'(by omega)) (by omega) (List.getElem?_eq_getElem (by omega))
    rw [List.getElem_take]
    by_cases z : j = i - 1
    · subst z; exact hlast
    · have := List.pairwise_iff_getElem.mp h2 j (i - 1) (by rw [List.length_take]; omega) (by rw [List.length_take]; omega) (by omega)
      rw [List.getElem_take, List.getElem_take] at this
      omega
section
variable {P : Program} {w : World} {K : PySem.W.Frag} {mg : Str → Option Value} {base : Heap}
/-! ### greatest_count -/
abbrev s_greatest_count : Stmt := top 18
abbrev N_greatest_count : List Str := ["size", "length", "count", "rest", "word", "texts"]
theorem sc_greatest_count : FnScope N_greatest_count ["size", "length"] (defScope s_greatest_count) := ⟨rfl, rfl, rfl, by decide +kernel, rfl, by decide +kernel, by decide +kernel⟩
def spGC : Sp := fun vs H Q _ => ∃ s L : Nat, vs = [.int (s : Int), .int (L : Int)] ∧ 1 ≤ s ∧ s ≤ 6 ∧ L ≤ cap ∧ RetV (.int (grF s L : Nat)) H Q
theorem isqrt_dec (n k : Nat) (hk : k ≤ 3) (h9 : 9 ≤ n ∨ k ≤ 1 ∧ 1 ≤ n) : ((Float64.isqrt n : Nat) : Int) - (k : Int) = ((Float64.isqrt n - k : Nat) : Int) := by
  have h := PySem.Float64.isqrt_spec n
  have : k ≤ Float64.isqrt n := by
    rcases h9 with a | ⟨a, b⟩
    · by_cases c : Float64.isqrt n ≤ 2
      · have := sq_step (Float64.isqrt n + 1) 3 (by omega)
        omega
      · omega
    · by_cases c : Float64.isqrt n = 0
      · rw [c] at h; omega
      · omega
  omega
theorem ok_greatest_count (TI : mg "isqrt" = some (.builtin "math.isqrt")) (F : At K mg "greatest_count" s_greatest_count) : Dn P w K mg base 1 "greatest_count" s_greatest_count ["size", "length"] spGC := by
  refine dn_ok F sc_greatest_count (fun _ _ _ _ _ _ us hl => match us, hl with | [_, _], _ => rfl) (fun vs H Q E h => ?_) (fun f cdv A outer t H vs Q E hr h => ?_)
  · obtain ⟨s, c, rfl, _⟩ := h; rfl
  · obtain ⟨s, L, rfl, h1, h6, hL, q⟩ := h
    refine ⟨_, (pss_cons (ps_if (pt_cmpR op_eq (pv 0) pe_int (nomark _)) (pss_one (ps_ret (pe_op op_fdiv (pe_op op_sub (pe_callBfun cr_isqrt (by rfl) TI (pa_cons (pe_op op_add (pe_op op_mul pe_int (pv 1)) pe_int) pa_nil)) pe_int) pe_int))) pss_nil)
      (pss_cons (ps_set (i := 2) sc_greatest_count.nd rfl (Or.inl rfl) pe_int)
      (pss_cons (ps_set (i := 3) sc_greatest_count.nd rfl (Or.inl rfl) (pv 1))
      (pss_cons (ps_set (i := 4) sc_greatest_count.nd rfl (Or.inl rfl) pe_int)
      (pss_cons (ps_set (i := 5) sc_greatest_count.nd rfl (Or.inl rfl) (pv 0))
      (pss_cons (ps_while PassesOwn.never (pt_cmpR op_gt (pv 3) (pe_op op_mul (pv 5) (pv 4)) (nomark _))
        (pss_cons (ps_aug (i := 2) sc_greatest_count.nd rfl (Or.inl rfl) (pv 5) (pip_of iop_add))
          (pss_cons (ps_aug (i := 3) sc_greatest_count.nd rfl (Or.inl rfl) (pe_op op_mul (pv 5) (pv 4)) (pip_of iop_sub))
          (pss_cons (ps_aug (i := 4) sc_greatest_count.nd rfl (Or.inl rfl) pe_int (pip_of iop_add))
          (pss_one (ps_aug (i := 5) sc_greatest_count.nd rfl (Or.inl rfl) (pv 0) (pip_of iop_mul)))))))
      (pss_one (ps_ret (pe_op op_add (pv 2) (pe_op op_fdiv (pv 3) (pv 4))))))))))), ?_⟩
    have hL2 := cap_lt
    refine q_when (et_test (ev_op (ev_var rfl) ev_c (rv_eq rfl))) (fun hb H1 e1 => ?_) (fun hb H1 e1 => ?_)
    · have hs : s = 1 := by
        have := of_decide_eq_true hb
        injection this
        omega
      subst hs
      have hi := PySem.Float64.isqrt_spec (8 * L + 1)
      rw [grF_is (by decide) (gr_one hi.1 hi.2)] at q
      have e8 : (8 : Int) * (L : Int) + 1 = ((8 * L + 1 : Nat) : Int) := by omega
      have ev : (((Float64.isqrt (8 * L + 1) - 1) / 2 : Nat) : Int) = (((Float64.isqrt (8 * L + 1) : Nat) : Int) - 1) / 2 := by
        have := isqrt_dec (8 * L + 1) 1 (by decide) (Or.inr ⟨by decide, by omega⟩)
        have c1 : ((1 : Nat) : Int) = 1 := rfl
        rw [c1] at this
        rw [this, Int.natCast_ediv]
        rfl
      rw [ev] at q
      refine s_ret (ev_op (ev_op (ev_isqrt (n := 8 * L + 1) ?_ ?_) ev_c rv_I0) ev_c (rv_I (by unfold CDiv; decide))) fun H2 e2 => q H2 (e1.trans e2)
      · rw [← e8]
        exact ev_op (ev_op ev_c (ev_var rfl) (rv_I (Or.inl (by decide)))) ev_c rv_I0
      · have : (8 * 2 ^ 101 + 1 : Nat) < 2 ^ 4000 := by decide +kernel
        omega
    · have hs : 2 ≤ s := by
        have := of_decide_eq_false hb
        by_cases z : s = 1
        · subst z; exact absurd rfl this
        · omega
      refine q_asg ev_c fun H2 e2 => ?_
      refine q_asg (ev_var rfl) fun H3 e3 => ?_
      refine q_asg ev_c fun H4 e4 => ?_
      refine q_asg (ev_var rfl) fun H5 e5 => ?_
      refine q_while (fun m σ H' => ∃ v rest : Nat, rest = m ∧ σ = [some (.int (s : Int)), some (.int (L : Int)), some (.int (Sn s v : Nat)), some (.int (rest : Int)), some (.int (v + 1 : Nat)), some (.int (s ^ (v + 1) : Nat))] ∧ Ex H H' ∧ L = Bn s v + rest ∧ s ^ v ≤ 6 * cap)
        L ⟨0, L, rfl, by rw [Nat.pow_one]; rfl, (((e1.trans e2).trans e3).trans e4).trans e5, by simp [Bn], by rw [Nat.pow_zero]; decide +kernel⟩ ?_
      rintro m σ' H' ⟨v, rest, rfl, rfl, e, hcr, hv⟩
      have v110 := level_small hs hv
      have eM : ((s ^ (v + 1) : Nat) : Int) * ((v + 1 : Nat) : Int) = ((s ^ (v + 1) * (v + 1) : Nat) : Int) := (Int.natCast_mul _ _).symm
      refine ⟨_, et_test (ev_op (ev_var rfl) (ev_op (ev_var rfl) (ev_var rfl) (rv_I (Or.inr (by omega)))) rv_I0), fun hb2 H6 e6 => ?_, fun hb2 H6 e6 => ?_⟩
      · have hlt : s ^ (v + 1) * (v + 1) < rest := by
          have := of_decide_eq_true hb2
          rw [eM] at this
          omega
        have hp := pow_pos' (show 1 ≤ s by omega) (v + 1)
        have hp2 : s ^ (v + 1) ≤ s ^ (v + 1) * (v + 1) := Nat.le_mul_of_pos_right _ (by omega)
        refine ⟨fun σ2 H2 => ∃ m', m' < rest ∧ ∃ v rest : Nat, rest = m' ∧ σ2 = [some (.int (s : Int)), some (.int (L : Int)), some (.int (Sn s v : Nat)), some (.int (rest : Int)), some (.int (v + 1 : Nat)), some (.int (s ^ (v + 1) : Nat))] ∧ Ex H H2 ∧ L = Bn s v + rest ∧ s ^ v ≤ 6 * cap, fun _ _ h => h, ?_⟩
        refine q_augR rfl (ev_var rfl) rv_I0 fun H7 e7 => ?_
        refine q_augR rfl (ev_op (ev_var rfl) (ev_var rfl) (rv_I (Or.inr (by omega)))) rv_I0 fun H8 e8 => ?_
        refine q_augR rfl ev_c rv_I0 fun H9 e9 => ?_
        refine s_augR rfl (ev_var rfl) (rv_I (Or.inr (by omega))) fun H10 e10 => ?_
        refine ⟨rest - s ^ (v + 1) * (v + 1), by omega, v + 1, rest - s ^ (v + 1) * (v + 1), rfl, ?_, ((((e.trans e6).trans e7).trans e8).trans e9).trans e10, ?_, by omega⟩
        · have e1 : ((rest : Nat) : Int) - ((s ^ (v + 1) : Nat) : Int) * ((v + 1 : Nat) : Int) = ((rest - s ^ (v + 1) * (v + 1) : Nat) : Int) := by rw [eM]; omega
          rw [← cS, ← cP, ← cN, ← e1]
          rfl
        · show L = Bn s v + (v + 1) * s ^ (v + 1) + (rest - s ^ (v + 1) * (v + 1))
          have := Nat.mul_comm (v + 1) (s ^ (v + 1))
          omega
      · have hge : rest ≤ s ^ (v + 1) * (v + 1) := by
          have := of_decide_eq_false hb2
          rw [eM] at this
          omega
        have ht : grF s L = Sn s v + rest / (v + 1) := grF_is (by omega) (gr_loop (by omega) hcr hge)
        have ev : ((grF s L : Nat) : Int) = ((Sn s v : Nat) : Int) + ((rest : Nat) : Int) / ((v + 1 : Nat) : Int) := by
          rw [ht, Int.natCast_add, Int.natCast_ediv]
        rw [ev] at q
        exact s_ret (ev_op (ev_var rfl) (ev_op (ev_var rfl) (ev_var rfl) (rv_I ⟨by omega, by omega⟩)) rv_I0) fun H7 e7 => q H7 ((e.trans e6).trans e7)
theorem sv_gc {s L : Nat} {H : Hp} (h1 : 1 ≤ s) (h6 : s ≤ 6) (hc : L ≤ cap) : SpV spGC [.int (s : Int), .int (L : Int)] H (.int (grF s L : Nat)) := fun _ _ _ q _ => ⟨s, L, rfl, h1, h6, hc, q⟩
end
section
variable {P : Program} {w : World} {K : PySem.W.Frag} {mg : Str → Option Value} {base : Heap}
variable {CG CC CB : Addr}
/-- a string that is no alphabet -/
def NoAbc (t : List Nat) : Prop := ¬ AbcOk t ∧ t.length ≤ 200 ∧ ∀ c ∈ t, c < 16 ^ 8
theorem NoAbc.show {t : List Nat} (h : NoAbc t) : ShowOk (.str (S t)) := .inl ⟨t, rfl, by have := h.2.1; omega, h.2.2⟩
def spIsB : Sp := fun vs H Q _ => ∃ t : List Nat, vs = [.str (S t)] ∧ NoAbc t ∧ RetV (.bl false) H Q
theorem ok_is_alphabet_bad (T : TC K mg CG CC) (F : At K mg "is_alphabet" s_is_alphabet) : Dn P w K mg base 1 "is_alphabet" s_is_alphabet ["alphabet"] spIsB := by
  refine dn_ok F sc_is_alphabet (fun _ _ _ _ _ _ us hl => match us, hl with | [_], _ => rfl) (fun vs H Q E h => ?_) (fun f cdv A outer t H vs Q E hr h => ?_)
  · obtain ⟨abc, rfl, _⟩ := h; rfl
  · obtain ⟨abc, rfl, hno, q⟩ := h
    obtain ⟨hna, hlen, _⟩ := hno
    refine ⟨_, (pss_cons (ps_if (pt_not (pt_chain op_le op_le pe_int (pe_callB call_len_str (by rfl) T.len boot_len (pa_cons (pv 0) pa_nil)) (C8.pe_gc rfl T.gGREATEST_SIZE))) (pss_one (ps_ret pe_bl)) pss_nil)
      (pss_cons (ps_set (i := 1) sc_is_alphabet.nd rfl (Or.inl rfl) pe_str)
      (pss_cons (ps_for PassesOwn.never rfl (pi_str (pv 0)) (pg_name (i := 2) sc_is_alphabet.nd rfl (Or.inl rfl))
        (pss_cons (ps_if (PW.pt (pw_or (pt_cmpR op_notIn_str (pv 2) (C8.pe_gc rfl T.gLETTERS) (by rfl)) (pw_or1 (pt_cmpR op_le_str (pv 2) (pv 1) (nomark _))))) (pss_one (ps_ret pe_bl)) pss_nil)
          (pss_one (ps_set (i := 1) sc_is_alphabet.nd rfl (Or.inl rfl) (pv 2)))))
      (pss_one (ps_ret pe_bl))))), ?_⟩
    have hl : Ev (tCB (fun xs H Q => ∃ z : Str, xs = [.str z] ∧ z.length ≤ sizeLine ∧ Q (.int z.length) H) (tCons (tVar 0) tNil)) (start N_is_alphabet [V.str (S abc)]) H (.int ((abc.length : Nat) : Int)) := ev_is (ev_lenStr (ev_var rfl) (by rw [S_len]; show abc.length ≤ 16777216; omega)) (by rw [S_len])
    refine q_when (b := !(decide ((1 : Int) ≤ ((abc.length : Nat) : Int)) && decide (((abc.length : Nat) : Int) ≤ 6))) (et_not (et_chain ev_c hl ev_c rv_I0 rv_I0)) (fun hb H1 e1 => s_ret ev_c fun H2 e2 => q H2 (e1.trans e2)) (fun hb H1 e1 => ?_)
    have hl16 : 1 ≤ abc.length ∧ abc.length ≤ 6 := by
      have hb2 : (decide ((1 : Int) ≤ ((abc.length : Nat) : Int)) && decide (((abc.length : Nat) : Int) ≤ 6)) = true := by
        cases z : (decide ((1 : Int) ≤ ((abc.length : Nat) : Int)) && decide (((abc.length : Nat) : Int) ≤ 6)) with
        | true => rfl
        | false => rw [z] at hb; exact absurd hb (by decide)
      obtain ⟨a, b⟩ := Bool.and_eq_true_iff.mp hb2
      have := of_decide_eq_true a
      have := of_decide_eq_true b
      omega
    refine q_asg (v := .str (S [])) (ev_is ev_c rfl) fun H2 e2 => ?_
    refine q_forS (ev_var rfl) (fun i σ' H' => ∃ (pr : List Nat) (v : Option V), σ' = [some (.str (S abc)), some (.str (S pr)), v] ∧ Ex H H' ∧ ((pr = [] ∧ i = 0) ∨ ∃ a, pr = [a] ∧ 1 ≤ i ∧ abc[i - 1]? = some a) ∧ (∀ x ∈ abc.take i, x ∈ L36c) ∧ (abc.take i).Pairwise (· < ·))
      (fun H3 e3 => ⟨[], none, rfl, (e1.trans e2).trans e3, Or.inl ⟨rfl, rfl⟩, (by rw [List.take_zero]; exact fun x hx => absurd hx List.not_mem_nil), (by rw [List.take_zero]; exact List.Pairwise.nil)⟩) ?_ ?_
    · rintro i c σ' H' hc ⟨pr, v, rfl, e, hpr, hL, hP⟩
      rw [S_get] at hc
      refine q_when (et_or (et_test (ev_op (r := rNiS) (ev_var rfl) (ev_is ev_c (congrArg V.str LETS_S)) rv_niS)) fun _ => et_test (ev_op (r := rLeS) (ev_var rfl) (ev_var rfl) rv_leS)) (fun hb H3 e3 => ?_) (fun hb H3 e3 => ?_)
      · exact s_ret (D := { nx := fun _ H' => Q .non H', rt := Q }) ev_c fun H4 e4 => q H4 ((e.trans e3).trans e4)
      · obtain ⟨b1, b2⟩ := Bool.or_eq_false_iff.mp hb
        have hcL : c ∈ L36c := by
          by_cases z : c ∈ L36c
          · exact z
          · rw [decide_eq_false z] at b1; exact absurd b1 (by decide)
        have hlt : pr < [c] := by
          by_cases z : pr < [c]
          · exact z
          · rw [decide_eq_false z] at b2; exact absurd b2 (by decide)
        have hst := abc_take hc hL hP hcL fun a hi ha => by
          rcases hpr with ⟨rfl, z⟩ | ⟨a', rfl, _, ha'⟩
          · omega
          · rw [ha] at ha'
            cases Option.some.inj ha'
            rcases List.cons_lt_cons_iff.mp hlt with z | ⟨_, z⟩
            · exact z
            · exact absurd z (by decide)
        exact s_asg (ev_var rfl) fun H4 e4 => ⟨[c], _, rfl, (e.trans e3).trans e4, Or.inr ⟨c, rfl, by omega, by rw [Nat.add_sub_cancel]; exact hc⟩, hst.1, hst.2⟩
    · rintro σ' H' ⟨pr, v, rfl, e, _, hL, hP⟩
      rw [S_size, List.take_length] at hL hP
      exact absurd ⟨hl16.1, hl16.2, hL, hP⟩ hna
/-- what the raised error tells -/
def Told (CB : Addr) (fld : Str) (z : V) (H : Hp) (E : XK) : Prop := ∀ (d : Addr) (H2 : Hp), Ex H H2 → H d = none → H2 d = some (.xd [(fld, z)]) → E (.ref CB) (some d) H2
theorem Told.ex {CB : Addr} {fld : Str} {z : V} {H H1 : Hp} {E : XK} (h : Told CB fld z H E) (e : Ex H H1) : Told CB fld z H1 E := fun d H2 e2 hd hx => h d H2 (e.trans e2) (fresh_back e hd) hx
def spCkB (CB : Addr) : Sp := fun vs H _ E => ∃ t : List Nat, vs = [.str (S t)] ∧ NoAbc t ∧ Told CB "alphabet" (.str (S t)) H E
theorem ok_check_alphabet_bad (D_is_alphabet : Dn P w K mg base 1 "is_alphabet" s_is_alphabet ["alphabet"] spIsB) (TB : ErrC P w K mg base 2 "BadAlphabet" CB "alphabet" ShowOk) (F : At K mg "check_alphabet" s_check_alphabet) : DnX P w K mg base 4 "check_alphabet" s_check_alphabet ["alphabet"] (spCkB CB) := by
  refine dnx_ok F sc_check_alphabet (fun _ _ _ _ _ _ us hl => match us, hl with | [_], _ => rfl) (fun vs H Q E h => ?_) (fun f cdv A outer t H vs Q E hr h => ?_)
  · obtain ⟨abc, rfl, _⟩ := h; rfl
  · obtain ⟨abc, rfl, hno, q⟩ := h
    refine ⟨_, pss_one (ps_if (pt_not (pt_val (pe_dn D_is_alphabet hr (by decide) rfl (pa_cons (pv 0) pa_nil)))) (pss_one (ps_raiseO rfl TB hr (by decide) (takes_of rfl rfl rfl rfl) rfl (pv 0))) pss_nil), ?_⟩
    exact s_when (b := !false) (et_not (et_B (ev_call (ea_cons (ev_var rfl) ea_nil) (fun H1 e1 Q1 q1 _ => ⟨abc, rfl, hno, q1⟩)))) (fun _ H1 e1 => s_raise (ev_var rfl) hno.show fun d H2 e2 hd hx => q.ex e1 d H2 e2 hd hx) (fun hb => absurd hb (by decide))
end
end
end My

set_option Elab.async false
set_option linter.all false
set_option maxRecDepth 100000
set_option maxHeartbeats 4000000
namespace My
open PySem PySem.Spec PyProof.Rows L2 Evl
open SX (S S_len S_cat S_beq S_beq_eq S_inj S_tl)
theorem L36_nd : L36c.Nodup := by decide +kernel
theorem L36_asc : L36c.Pairwise (· < ·) := by decide +kernel
theorem L36_small : ∀ c ∈ L36c, c < 16 ^ 8 := by decide +kernel
def fndF (c : Nat) : Int := if c ∈ L36c then (L36c.idxOf c : Int) else -1
theorem find_L (c : Nat) : Txt.find (S L36c) (S [c]) = fndF c := by
  unfold fndF
  by_cases h : c ∈ L36c
  · obtain ⟨r, e⟩ := idx_occ L36_nd h
    rw [if_pos h]
    unfold Txt.find
    rw [e]
  · have h1 := SX.in_one L36c c
    rw [decide_eq_false h] at h1
    rw [if_neg h]
    unfold Txt.find
    cases hm : Builtin.Str.occurrences (S L36c) (S [c]) 0 (S L36c).length 1 with
    | nil => rfl
    | cons k t => rw [hm] at h1; simp at h1
theorem fnd_pos {c : Nat} (h : -1 < fndF c) : c ∈ L36c ∧ fndF c = (L36c.idxOf c : Int) := by
  unfold fndF at h ⊢
  by_cases z : c ∈ L36c
  · rw [if_pos z]; exact ⟨z, rfl⟩
  · rw [if_neg z] at h; omega
theorem fnd_ge (c : Nat) : -1 ≤ fndF c := by
  unfold fndF
  split <;> omega
theorem fnd_lt {a c : Nat} (ha : a ∈ L36c) (hc : c ∈ L36c) : fndF a < fndF c ↔ a < c := by
  unfold fndF
  rw [if_pos ha, if_pos hc]
  constructor
  · intro h
    by_cases z : a < c
    · exact z
    · by_cases z2 : a = c
      · subst z2; omega
      · have := idx_mono L36_asc hc ha (by omega)
        omega
  · intro h
    have := idx_mono L36_asc ha hc h
    omega
section
variable {K : PySem.W.Frag} {σ : L2.St} {H : Hp} {ta tb te tl : TE} {x y v : V}
theorem ev_findS {a b : Str} (ha : Ev ta σ H (.str a)) (hb : Ev tb σ H (.str b)) : Ev (tBM K "str" (fun x xs H Q => ∃ a b, x = .str a ∧ xs = [.str b] ∧ Q (.int (Txt.find a b)) H) ta (tCons tb tNil)) σ H (.int (Txt.find a b)) := fun H1 e Q q =>
  ha H1 e _ fun H2 e2 => ⟨rfl, hb H2 (e.trans e2) _ fun H3 e3 => ⟨a, b, rfl, rfl, q H3 (e2.trans e3)⟩⟩
end
theorem cutL_sub {α : Type} {l : List α} {lo hi : Option Int} {x : α} (h : x ∈ cutL l lo hi) : x ∈ l := by
  unfold cutL at h
  exact List.mem_of_mem_drop (List.mem_of_mem_take h)
section
variable {K : PySem.W.Frag} {σ : L2.St} {H : Hp}
theorem ev_lit {s : Str} : Ev (tC (.str s)) σ H (.str (S s.cps.toList)) := ev_is ev_c (congrArg V.str (S_tl s).symm)
end
/-- small signs -/
def Ch (t : List Nat) : Prop := ∀ c ∈ t, c < 16 ^ 8
theorem Ch.app {a b : List Nat} (h : Ch a) (k : Ch b) : Ch (a ++ b) := fun c hc => by
  rcases List.mem_append.mp hc with hc | hc
  · exact h c hc
  · exact k c hc
theorem Ch.one {c : Nat} (h : c < 16 ^ 8) : Ch [c] := fun x hx => by rw [List.mem_singleton.mp hx]; exact h
theorem Ch.cut {a : List Nat} (h : Ch a) (lo hi : Option Int) : Ch (cutL a lo hi) := fun c hc => by
  unfold cutL at hc
  exact h c (List.mem_of_mem_drop (List.mem_of_mem_take hc))
def SB : List Int := [14, 30, 11, 9] ++ List.replicate 8 95
def BADS : List Str := ["", "0:a", "@", "Za", "A", "`a", "a-b", "a b", "ba", "\n", "09a0"]
theorem bads_ok : ∀ i, i < 11 → ∃ t : List Nat, BADS[i]? = some (S t) ∧ t.length ≤ 10 ∧ Ch t := by
  intro i hi
  have h : ∀ i, i < 11 → ∃ s, BADS[i]? = some s ∧ s.cps.toList.length ≤ 10 ∧ ∀ c ∈ s.cps.toList, c < 16 ^ 8 := by decide +kernel
  obtain ⟨s, h1, h2, h3⟩ := h i hi
  exact ⟨s.cps.toList, by rw [h1, S_tl], h2, h3⟩
def SIGNS : Str := " !\"#$&'()*+,-./0123456789:;<=>?@ABCDEFGHIJKLMNOPQRSTUVWXYZ[\\]^_`abcdefghijklmnopqrstuvwxyz{|}~\n"
theorem signs_ok : 95 ≤ SIGNS.cps.toList.length ∧ SIGNS.cps.toList.length ≤ 200 ∧ ∀ c ∈ SIGNS.cps.toList, c < 16 ^ 8 := by decide +kernel
section
variable {P : Program} {w : World} {K : PySem.W.Frag} {mg : Str → Option Value} {base : Heap}
abbrev s_law_is_alphabet : Stmt := top 32
abbrev N_law_is_alphabet : List Str := ["word", "letters", "last", "sign", "at"]
theorem sc_law_is_alphabet : FnScope N_law_is_alphabet ["word"] (defScope s_law_is_alphabet) := ⟨rfl, rfl, rfl, by decide +kernel, rfl, by decide +kernel, by decide +kernel⟩
def spIA : Sp := fun vs H Q _ => ∃ t : List Nat, vs = [.str (S t)] ∧ t.length ≤ 300 ∧ ∀ b : Bool, (b = true ↔ AbcOk t) → RetV (.bl b) H Q
theorem ok_law_is_alphabet (T : TT mg) (F : At K mg "_law_is_alphabet" s_law_is_alphabet) : Dn P w K mg base 1 "_law_is_alphabet" s_law_is_alphabet ["word"] spIA := by
  refine dn_ok F sc_law_is_alphabet (fun _ _ _ _ _ _ us hl => match us, hl with | [_], _ => rfl) (fun vs H Q E h => ?_) (fun f cdv A outer s H vs Q E hr h => ?_)
  · obtain ⟨t, rfl, _⟩ := h; rfl
  · obtain ⟨t, rfl, hlen, q⟩ := h
    refine ⟨_, (pss_cons (ps_set (i := 1) sc_law_is_alphabet.nd rfl (Or.inl rfl) pe_str)
      (pss_cons (ps_if (PW.pt (pw_or (pt_cmpR op_lt (pe_callB call_len_str (by rfl) T.len boot_len (pa_cons (pv 0) pa_nil)) pe_int (nomark _)) (pw_or1 (pt_cmpR op_gt (pe_callB call_len_str (by rfl) T.len boot_len (pa_cons (pv 0) pa_nil)) pe_int (nomark _))))) (pss_one (ps_ret pe_bl)) pss_nil)
      (pss_cons (ps_set (i := 2) sc_law_is_alphabet.nd rfl (Or.inl rfl) (pe_un un_neg pe_int))
      (pss_cons (ps_for PassesOwn.never rfl (pi_str (pv 0)) (pg_name (i := 3) sc_law_is_alphabet.nd rfl (Or.inl rfl))
        (pss_cons (ps_set (i := 4) sc_law_is_alphabet.nd rfl (Or.inl rfl) (pe_bm PySem.F.plainAttrs_str PySem.F.slot_str_find PySem.F.type_str_find mt_find (pv 1) (pa_cons (pv 3) pa_nil)))
          (pss_cons (ps_if (pt_cmpR op_le (pv 4) (pv 2) (nomark _)) (pss_one (ps_ret pe_bl)) pss_nil)
          (pss_one (ps_set (i := 2) sc_law_is_alphabet.nd rfl (Or.inl rfl) (pv 4))))))
      (pss_one (ps_ret pe_bl)))))), ?_⟩
    refine q_asg (v := .str (S L36c)) (ev_is ev_c (congrArg V.str LETS_S)) fun H1 e1 => ?_
    refine q_when (et_or (et_test (ev_op (ev_lenSS (ev_var rfl) (by omega)) ev_c rv_I0)) fun _ => et_test (ev_op (ev_lenSS (ev_var rfl) (by omega)) ev_c rv_I0)) (fun hb H2 e2 => ?_) (fun hb H2 e2 => ?_)
    · refine s_ret (v := .bl false) ev_c fun H3 e3 => q false ⟨fun z => absurd z (by decide), fun z => ?_⟩ H3 ((e1.trans e2).trans e3)
      have h1 := z.1
      have h6 := z.2.1
      rcases Bool.or_eq_true_iff.mp hb with h | h
      · have := of_decide_eq_true h; omega
      · have := of_decide_eq_true h; omega
    · obtain ⟨b1, b2⟩ := Bool.or_eq_false_iff.mp hb
      have b1 := of_decide_eq_false b1
      have b2 := of_decide_eq_false b2
      have e02 := e1.trans e2
      refine q_asg (v := .int (-1)) (ev_is (ev_un ev_c ru_neg) rfl) fun H3 e3 => ?_
      refine q_forS (ev_var rfl) (fun i σ' H' => ∃ (z : Int) (x y : Option V), σ' = [some (.str (S t)), some (.str (S L36c)), some (.int z), x, y] ∧ Ex H H' ∧ ((i = 0 ∧ z = -1) ∨ ∃ a, 1 ≤ i ∧ t[i - 1]? = some a ∧ a ∈ L36c ∧ z = fndF a) ∧ (∀ x ∈ t.take i, x ∈ L36c) ∧ (t.take i).Pairwise (· < ·))
        (fun H4 e4 => ⟨-1, none, none, rfl, (e02.trans e3).trans e4, .inl ⟨rfl, rfl⟩, (by rw [List.take_zero]; exact fun x hx => absurd hx List.not_mem_nil), (by rw [List.take_zero]; exact List.Pairwise.nil)⟩) ?_ ?_
      · rintro i c σ' H' hc ⟨z, x, y, rfl, e, hz, hL, hP⟩
        rw [S_get] at hc
        have hi := (List.getElem?_eq_some_iff.mp hc).1
        refine q_asg (v := .int (fndF c)) (ev_is (ev_findS (K := K) (ev_var rfl) (ev_var rfl)) (congrArg V.int (find_L c))) fun H4 e4 => ?_
        refine q_when (et_test (ev_op (ev_var rfl) (ev_var rfl) rv_I0)) (fun hb H5 e5 => ?_) (fun hb H5 e5 => ?_)
        · have hle := of_decide_eq_true hb
          refine s_ret (D := { nx := fun _ H' => Q .non H', rt := Q }) (v := .bl false) ev_c fun H6 e6 => q false ⟨fun z => absurd z (by decide), fun hA => ?_⟩ H6 (((e.trans e4).trans e5).trans e6)
          have hcL := hA.2.2.1 c (List.mem_of_getElem? hc)
          have hf : 0 ≤ fndF c := by unfold fndF; rw [if_pos hcL]; omega
          rcases hz with ⟨_, rfl⟩ | ⟨a, hi1, ha, haL, rfl⟩
          · omega
          · have h3 := (List.getElem?_eq_some_iff.mp ha)
            obtain ⟨a1, a2⟩ := h3
            obtain ⟨c1, c2⟩ := List.getElem?_eq_some_iff.mp hc
            have := List.pairwise_iff_getElem.mp hA.2.2.2 (i - 1) i a1 c1 (by omega)
            rw [a2, c2] at this
            have := (fnd_lt haL hcL).mpr this
            omega
        · have hgt : z < fndF c := by have := of_decide_eq_false hb; omega
          have hzg : -1 ≤ z := by
            rcases hz with ⟨_, rfl⟩ | ⟨a, _, _, _, rfl⟩
            · omega
            · exact fnd_ge a
          obtain ⟨hcL, _⟩ := fnd_pos (by omega : -1 < fndF c)
          have hst := abc_take hc hL hP hcL fun a hi1 ha => by
            rcases hz with ⟨z0, _⟩ | ⟨a', _, ha', haL, rfl⟩
            · omega
            · rw [ha] at ha'
              cases Option.some.inj ha'
              exact (fnd_lt haL hcL).mp hgt
          exact s_asg (ev_var rfl) fun H6 e6 => ⟨fndF c, _, _, rfl, ((e.trans e4).trans e5).trans e6, .inr ⟨c, by omega, by rw [Nat.add_sub_cancel]; exact hc, hcL, rfl⟩, hst.1, hst.2⟩
      · rintro σ' H' ⟨z, x, y, rfl, e, _, hL, hP⟩
        rw [S_size, List.take_length] at hL hP
        exact s_ret (v := .bl true) ev_c fun H6 e6 => q true ⟨fun _ => ⟨by omega, by omega, hL, hP⟩, fun _ => rfl⟩ H6 (e.trans e6)
abbrev s_law_bad : Stmt := top 33
abbrev N_law_bad : List Str := ["abc", "row", "signs", "at"]
theorem sc_law_bad : FnScope N_law_bad ["abc", "row"] (defScope s_law_bad) := ⟨rfl, rfl, rfl, by decide +kernel, rfl, by decide +kernel, by decide +kernel⟩
def spBd (K : PySem.W.Frag) : Sp := fun vs H Q _ => ∃ (l : List Nat) (p : Addr) (rs : List Int), vs = [.str (S l), .ref p] ∧ AbcOk l ∧ SqL K H p (rs.map V.int) ∧ Within rs SB ∧ ∀ t : List Nat, t.length ≤ 200 → Ch t → RetV (.str (S t)) H Q
theorem ok_law_bad (T : TT mg) (F : At K mg "_law_bad" s_law_bad) : Dn P w K mg base 1 "_law_bad" s_law_bad ["abc", "row"] (spBd K) := by
  refine dn_ok F sc_law_bad (fun _ _ _ _ _ _ us hl => match us, hl with | [_, _], _ => rfl) (fun vs H Q E h => ?_) (fun f cdv A outer t H vs Q E hr h => ?_)
  · obtain ⟨l, p, rs, rfl, _⟩ := h; rfl
  · obtain ⟨l, p, rs, rfl, hA, hS, hW, q⟩ := h
    have hlen : rs.length = 12 := hW.len
    have h1 := hA.1
    have h6 := hA.2.1
    have hch : Ch l := fun c hc => L36_small c (hA.2.2.1 c hc)
    refine ⟨_, (pss_cons (ps_if (pt_cmpR op_gt (pe_ix ix_list (pv 1) pe_int (fun _ _ => rfl)) pe_int (nomark _)) (pss_cons (ps_set (i := 2) sc_law_bad.nd rfl (Or.inr rfl) pe_str)
        (pss_one (ps_ret (pe_join pe_str (pe_lc (te := tOp rIxS (tVar 2) (tVar 3)) (own := [("at", 3)]) (g := gName 3) (tt := tYes) rfl sc_law_bad.nd (pi_list (pe_slice sl_list (pv 1) (po_some pe_int) (po_some (pe_op op_add pe_int (pe_ix ix_list (pv 1) pe_int (fun _ _ => rfl)))))) (blkOk_by (own := [("at", 3)]) (N := N_law_bad) (sc := defScope s_law_bad) (by decide +kernel)) (fun _ _ _ _ _ => pg_name (i := 3) sc_law_bad.nd rfl (Or.inl rfl)) (fun _ _ _ _ _ => pts_nil) (fun _ _ _ _ _ => (pe_ix ix_str (pv 2) (pv 3) (fun _ _ => rfl)))))))) pss_nil)
      (pss_cons (ps_if (pt_cmpR op_eq (pe_ix ix_list (pv 1) pe_int (fun _ _ => rfl)) pe_int (nomark _)) (pss_one (ps_ret (pe_op op_add_str (pv 0) (pe_ix ix_str (pv 0) (pe_un un_neg pe_int) (fun _ _ => rfl))))) pss_nil)
      (pss_cons (ps_if (pt_cmpR op_eq (pe_ix ix_list (pv 1) pe_int (fun _ _ => rfl)) pe_int (nomark _)) (pss_one (ps_ret (pe_op op_add_str (pe_ix ix_str (pv 0) pe_int (fun _ _ => rfl)) (pv 0)))) pss_nil)
      (pss_cons (ps_if (pt_cmpR op_eq (pe_ix ix_list (pv 1) pe_int (fun _ _ => rfl)) pe_int (nomark _)) (pss_one (ps_ret (pe_slice sl_str pe_str (po_some (pe_ix ix_list (pv 1) pe_int (fun _ _ => rfl))) (po_some (pe_op op_add (pe_ix ix_list (pv 1) pe_int (fun _ _ => rfl)) pe_int))))) pss_nil)
      (pss_cons (ps_if (pt_cmpR op_eq (pe_ix ix_list (pv 1) pe_int (fun _ _ => rfl)) pe_int (nomark _)) (pss_one (ps_ret (pe_op op_add_str pe_str (pe_slice sl_str (pv 0) (po_some pe_int) po_none)))) pss_nil)
      (pss_cons (ps_if (pt_cmpR op_eq (pe_ix ix_list (pv 1) pe_int (fun _ _ => rfl)) pe_int (nomark _)) (pss_one (ps_ret (pe_op op_add_str (pe_slice sl_str (pv 0) po_none (po_some (pe_un un_neg pe_int))) pe_str))) pss_nil)
      (pss_cons (ps_if (PW.pt (pw_and (pt_cmpR op_eq (pe_ix ix_list (pv 1) pe_int (fun _ _ => rfl)) pe_int (nomark _)) (pw_and1 (pt_cmpR op_gt (pe_callB call_len_str (by rfl) T.len boot_len (pa_cons (pv 0) pa_nil)) pe_int (nomark _))))) (pss_one (ps_ret (pe_op op_add_str (pe_op op_add_str (pe_ix ix_str (pv 0) pe_int (fun _ _ => rfl)) (pe_ix ix_str (pv 0) pe_int (fun _ _ => rfl))) (pe_slice sl_str (pv 0) (po_some pe_int) po_none)))) pss_nil)
      (pss_cons (ps_if (PW.pt (pw_and (pt_cmpR op_eq (pe_ix ix_list (pv 1) pe_int (fun _ _ => rfl)) pe_int (nomark _)) (pw_and1 (pt_cmpR op_gt (pe_callB call_len_str (by rfl) T.len boot_len (pa_cons (pv 0) pa_nil)) pe_int (nomark _))))) (pss_one (ps_ret (pe_op op_add_str (pe_op op_add_str (pe_slice sl_str (pv 0) po_none (po_some (pe_un un_neg pe_int))) (pe_ix ix_str (pv 0) (pe_un un_neg pe_int) (fun _ _ => rfl))) (pe_ix ix_str (pv 0) (pe_un un_neg pe_int) (fun _ _ => rfl))))) pss_nil)
      (pss_cons (ps_if (pt_cmpR op_eq (pe_ix ix_list (pv 1) pe_int (fun _ _ => rfl)) pe_int (nomark _)) (pss_one (ps_ret (pe_op op_add_str (pv 0) pe_str))) pss_nil)
      (pss_cons (ps_if (pt_cmpR op_eq (pe_ix ix_list (pv 1) pe_int (fun _ _ => rfl)) pe_int (nomark _)) (pss_one (ps_ret (pe_op op_add_str pe_str (pv 0)))) pss_nil)
      (pss_one (ps_ret (pe_ix ix_list (pe_lst (pa_cons pe_str (pa_cons pe_str (pa_cons pe_str (pa_cons pe_str (pa_cons pe_str (pa_cons pe_str (pa_cons pe_str (pa_cons pe_str (pa_cons pe_str (pa_cons pe_str (pa_cons pe_str pa_nil)))))))))))) (pe_ix ix_list (pv 1) pe_int (fun _ _ => rfl)) (fun _ _ => rfl)))))))))))))), ?_⟩
    have dat : ∀ {H' : Hp}, Ex H H' → ∀ (i : Nat), i < 12 → ∀ {σ : L2.St}, σ[1]? = some (some (.ref p)) → Ev (tOp (rIxL K) (tVar 1) (tC (.int (i : Int)))) σ H' (.int (rs.getD i 0)) := fun e i hi σ hs => ev_op (ev_var hs) ev_c (rv_ixL (K := K) (ex_l e hS) (at_d (i := i) (by omega)))
    obtain ⟨c0, c1⟩ := hW.get 1 (by decide)
    obtain ⟨d0, d1⟩ := hW.get 2 (by decide)
    obtain ⟨f0, f1⟩ := hW.get 3 (by decide)
    have c1' : rs.getD 1 0 < 30 := c1
    have d1' : rs.getD 2 0 < 11 := d1
    have f1' : rs.getD 3 0 < 9 := f1
    have at0 : ∀ k : Nat, k < l.length → ∃ c, atI l (k : Int) = some c ∧ c < 16 ^ 8 := fun k hk => ⟨l[k], atI_nat (List.getElem?_eq_getElem hk), hch _ (List.getElem_mem hk)⟩
    have atN : ∀ k : Nat, 1 ≤ k → k ≤ l.length → ∃ c, atI l (-(k : Int)) = some c ∧ c < 16 ^ 8 := fun k hk1 hk => by
      refine ⟨l[l.length - k]'(by omega), ?_, hch _ (List.getElem_mem _)⟩
      unfold atI ixN
      rw [if_neg (by omega), if_pos (by omega)]
      have e : (-(k : Int) + (l.length : Int)).toNat = l.length - k := by omega
      show l[(-(k : Int) + (l.length : Int)).toNat]? = _
      rw [e]
      exact List.getElem?_eq_getElem _
    have one1 : ∀ c : Nat, ([c] : List Nat).length = 1 := fun _ => rfl
    have hcl : ∀ (lo hi : Option Int), (cutL l lo hi).length ≤ 6 := fun lo hi => Nat.le_trans (cutL_len l lo hi) h6
    refine q_when (et_test (ev_op (dat (Ex.refl H) 0 (by decide) rfl) ev_c rv_I0)) (fun _ H1 e1 => ?_) (fun _ H1 e1 => ?_)
    · obtain ⟨s1, s2, s3⟩ := signs_ok
      refine q_asg (v := .str (S SIGNS.cps.toList)) ev_lit fun H2 e2 => ?_
      have e02 := e1.trans e2
      obtain ⟨n, hn, hn9⟩ : ∃ n : Nat, rs.getD 3 0 = (n : Int) ∧ n ≤ 8 := ⟨(rs.getD 3 0).toNat, by omega, by omega⟩
      obtain ⟨rs2, hrs2⟩ : ∃ rs2, rs2 = cutL rs (some 4) (some (4 + (n : Int))) := ⟨_, rfl⟩
      have h95 : ∀ (i : Nat) (x : Int), rs2[i]? = some x → 0 ≤ x ∧ x < 95 := fun i x hx => by
        rw [hrs2, cutL_mid (by decide) (by omega)] at hx
        have e44 : (4 + (n : Int)).toNat - Int.toNat 4 = n ∧ Int.toNat 4 = 4 := by constructor <;> omega
        rw [e44.1, e44.2] at hx
        have hx2 : rs[4 + i]? = some x := by
          rw [List.getElem?_take] at hx
          split at hx
          · rw [List.getElem?_drop] at hx
            exact hx
          · cases hx
        have hi := (List.getElem?_eq_some_iff.mp hx2).1
        obtain ⟨a, b⟩ := hW.get (4 + i) (by show 4 + i < 12; omega)
        have hsb : SB.getD (4 + i) 0 = 95 := by
          have h9 : ∀ i, i < 8 → SB.getD (4 + i) 0 = 95 := by decide
          exact h9 i (by omega)
        rw [hsb] at b
        have hg : rs.getD (4 + i) 0 = x := by rw [List.getD_eq_getElem?_getD, hx2]; rfl
        rw [hg] at a b
        exact ⟨a, b⟩
      have hl2 : rs2.length ≤ 12 := by rw [hrs2]; exact Nat.le_trans (cutL_len _ _ _) (by omega)
      let g : Nat → List Nat := fun i => [SIGNS.cps.toList.getD (rs2.getD i 0).toNat 0]
      have hgc : Ch ((List.range rs2.length).map g).flatten := fun c hc => by
        obtain ⟨w', hw', hc⟩ := List.mem_flatten.mp hc
        obtain ⟨i, hi, rfl⟩ := List.mem_map.mp hw'
        have hi := List.mem_range.mp hi
        rw [List.mem_singleton.mp hc]
        obtain ⟨a, b⟩ := h95 i _ (List.getElem?_eq_getElem hi)
        have hg : rs2.getD i 0 = rs2[i] := by rw [List.getD_eq_getElem?_getD, List.getElem?_eq_getElem hi]; rfl
        rw [hg, List.getD_eq_getElem?_getD, List.getElem?_eq_getElem (by omega)]
        exact s3 _ (List.getElem_mem _)
      have hgs : (((List.range rs2.length).map g).map List.length).sum ≤ 12 := by
        have := sum_le (ls := (List.range rs2.length).map g) (n := 1) fun l' hl' => by
          obtain ⟨i, hi, rfl⟩ := List.mem_map.mp hl'
          exact Nat.le_refl _
        rw [List.length_map, List.length_range] at this
        omega
      refine s_ret (v := .str (S ((List.range rs2.length).map g).flatten)) (ev_joinL (K := K) (ev_is ev_c rfl) (by
        rw [← given_S]
        have hx : given rs2.length (fun _ => true) (fun i => V.str (S (g i))) = given (rs2.map V.int).length (fun _ => true) (fun i => V.str (S (g i))) := by rw [List.length_map]
        rw [hx]
        refine el_lcNL (K := K) (xs := rs2.map V.int) (fun _ => true) (fun i => V.str (S (g i))) (by
          have h5 := el_sl (K := K) (H := H2) (te := tVar 1) (σ := [some (.str (S l)), some (.ref p), some (.str (S SIGNS.cps.toList)), none]) (tl := tPart (tC (.int 4))) (th := tPart (tOp (rI0 fun i j => .int (i + j)) (tC (.int 4)) (tOp (rIxL K) (tVar 1) (tC (.int 3))))) (a := p) (xs := rs.map V.int) (ev_var rfl) (eo_some ev_c) (eo_some (ev_is (ev_op ev_c (dat e02 3 (by decide) rfl) rv_I0) (congrArg V.int (by rw [hn])))) (ex_l e02 hS)
          rw [cutV_L, cutL_map] at h5
          rw [hrs2]
          exact h5) (by rw [List.length_map]; omega) (fun _ => rfl) (fun _ _ _ _ _ => et_yes) (fun i x H3 e3 hx _ => ?_)
        rw [List.getElem?_map] at hx
        cases hz : rs2[i]? with
        | none => rw [hz] at hx; cases hx
        | some z =>
          rw [hz] at hx
          cases Option.some.inj hx
          obtain ⟨a, b⟩ := h95 i z hz
          have hg : rs2.getD i 0 = z := by rw [List.getD_eq_getElem?_getD, hz]; rfl
          obtain ⟨m, rfl⟩ : ∃ m : Nat, z = (m : Int) := ⟨z.toNat, by omega⟩
          have : g i = [SIGNS.cps.toList.getD m 0] := by show [SIGNS.cps.toList.getD (rs2.getD i 0).toNat 0] = _; rw [hg, Int.toNat_natCast]
          rw [this]
          exact ev_op (ev_var rfl) (ev_var rfl) (rv_ixSS (by omega) (atI_nat (j := m) (v := SIGNS.cps.toList.getD m 0) (by rw [List.getD_eq_getElem?_getD, List.getElem?_eq_getElem (by omega)]; rfl)))) (by omega)) fun H3 e3 => q _ (by rw [List.length_flatten]; omega) hgc H3 (e02.trans e3)
    refine q_when (et_test (ev_op (dat e1 0 (by decide) rfl) ev_c (rv_eq rfl))) (fun _ H2 e2 => ?_) (fun _ H2 e2 => ?_)
    · obtain ⟨c, hc, hcs⟩ := atN 1 (by omega) h1
      exact s_ret (ev_op (ev_var rfl) (ev_op (ev_var rfl) (ev_is (ev_un ev_c ru_neg) rfl) (rv_ixSS (by omega) hc)) (rv_addS (by rw [one1]; omega))) fun H3 e3 => q _ (by rw [List.length_append, one1]; omega) (hch.app (Ch.one hcs)) H3 ((e1.trans e2).trans e3)
    have e02 := e1.trans e2
    refine q_when (et_test (ev_op (dat e02 0 (by decide) rfl) ev_c (rv_eq rfl))) (fun _ H3 e3 => ?_) (fun _ H3 e3 => ?_)
    · obtain ⟨c, hc, hcs⟩ := at0 0 h1
      exact s_ret (ev_op (ev_op (ev_var rfl) (ev_is ev_c rfl) (rv_ixSS (by omega) hc)) (ev_var rfl) (rv_addS (by rw [one1]; omega))) fun H4 e4 => q _ (by rw [List.length_append, one1]; omega) ((Ch.one hcs).app hch) H4 ((e02.trans e3).trans e4)
    have e03 := e02.trans e3
    refine q_when (et_test (ev_op (dat e03 0 (by decide) rfl) ev_c (rv_eq rfl))) (fun _ H4 e4 => ?_) (fun _ H4 e4 => ?_)
    · have hL : L36c.length = 36 := by decide +kernel
      exact s_ret (ev_slS (ev_is ev_c (congrArg V.str LETS_S)) (eo_some (dat (e03.trans e4) 1 (by decide) rfl)) (eo_some (ev_op (dat (e03.trans e4) 1 (by decide) rfl) ev_c rv_I0)) (by omega)) fun H5 e5 => q _ (by have := cutL_len L36c (some (rs.getD 1 0)) (some (rs.getD 1 0 + 7)); omega) (Ch.cut (fun c hc => L36_small c hc) _ _) H5 ((e03.trans e4).trans e5)
    have e04 := e03.trans e4
    refine q_when (et_test (ev_op (dat e04 0 (by decide) rfl) ev_c (rv_eq rfl))) (fun _ H5 e5 => ?_) (fun _ H5 e5 => ?_)
    · have := hcl (some 1) none
      exact s_ret (ev_op ev_lit (ev_slS (ev_var rfl) (eo_some ev_c) eo_none (by omega)) (rv_addS (by show 1 + _ ≤ _; omega))) fun H6 e6 => q _ (by rw [List.length_append]; show 1 + _ ≤ _; omega) (Ch.app (by unfold Ch; decide +kernel) (hch.cut _ _)) H6 ((e04.trans e5).trans e6)
    have e05 := e04.trans e5
    refine q_when (et_test (ev_op (dat e05 0 (by decide) rfl) ev_c (rv_eq rfl))) (fun _ H6 e6 => ?_) (fun _ H6 e6 => ?_)
    · have := hcl none (some (-1))
      exact s_ret (ev_op (ev_slS (ev_var rfl) eo_none (eo_some (ev_un ev_c ru_neg)) (by omega)) ev_lit (rv_addS (by show _ + 1 ≤ _; omega))) fun H7 e7 => q _ (by rw [List.length_append]; show _ + 1 ≤ _; omega) ((hch.cut _ _).app (by unfold Ch; decide +kernel)) H7 ((e05.trans e6).trans e7)
    have e06 := e05.trans e6
    refine q_when (et_and (et_test (ev_op (dat e06 0 (by decide) rfl) ev_c (rv_eq rfl))) fun _ => et_test (ev_op (ev_lenSS (ev_var rfl) (by omega)) ev_c rv_I0)) (fun hb H7 e7 => ?_) (fun _ H7 e7 => ?_)
    · have hl2 : 1 < l.length := by
        have := of_decide_eq_true (Bool.and_eq_true_iff.mp hb).2
        omega
      obtain ⟨a, ha, has⟩ := at0 1 hl2
      obtain ⟨b, hb2, hbs⟩ := at0 0 h1
      have := hcl (some 2) none
      exact s_ret (ev_op (ev_op (ev_op (ev_var rfl) (ev_is ev_c rfl) (rv_ixSS (by omega) ha)) (ev_op (ev_var rfl) (ev_is ev_c rfl) (rv_ixSS (by omega) hb2)) (rv_addS (by rw [one1, one1]; decide))) (ev_slS (ev_var rfl) (eo_some ev_c) eo_none (by omega)) (rv_addS (by show 2 + _ ≤ _; omega))) fun H8 e8 => q _ (by rw [List.length_append]; show 2 + _ ≤ _; omega) (((Ch.one has).app (Ch.one hbs)).app (hch.cut _ _)) H8 ((e06.trans e7).trans e8)
    have e07 := e06.trans e7
    refine q_when (et_and (et_test (ev_op (dat e07 0 (by decide) rfl) ev_c (rv_eq rfl))) fun _ => et_test (ev_op (ev_lenSS (ev_var rfl) (by omega)) ev_c rv_I0)) (fun hb H8 e8 => ?_) (fun _ H8 e8 => ?_)
    · have hl2 : 1 < l.length := by
        have := of_decide_eq_true (Bool.and_eq_true_iff.mp hb).2
        omega
      obtain ⟨a, ha, has⟩ := atN 1 (by omega) h1
      obtain ⟨b, hb2, hbs⟩ := atN 2 (by omega) hl2
      have := hcl none (some (-2))
      exact s_ret (ev_op (ev_op (ev_slS (ev_var rfl) eo_none (eo_some (ev_un ev_c ru_neg)) (by omega)) (ev_op (ev_var rfl) (ev_is (ev_un ev_c ru_neg) rfl) (rv_ixSS (by omega) ha)) (rv_addS (by rw [one1]; omega))) (ev_op (ev_var rfl) (ev_is (ev_un ev_c ru_neg) rfl) (rv_ixSS (by omega) hb2)) (rv_addS (by rw [List.length_append, one1, one1]; omega))) fun H9 e9 => q _ (by rw [List.length_append, List.length_append, one1, one1]; omega) (((hch.cut _ _).app (Ch.one has)).app (Ch.one hbs)) H9 ((e07.trans e8).trans e9)
    have e08 := e07.trans e8
    refine q_when (et_test (ev_op (dat e08 0 (by decide) rfl) ev_c (rv_eq rfl))) (fun _ H9 e9 => ?_) (fun _ H9 e9 => ?_)
    · exact s_ret (ev_op (ev_var rfl) ev_lit (rv_addS (by show _ + 1 ≤ _; omega))) fun H10 e10 => q _ (by rw [List.length_append]; show _ + 1 ≤ _; omega) (hch.app (by unfold Ch; decide +kernel)) H10 ((e08.trans e9).trans e10)
    have e09 := e08.trans e9
    refine q_when (et_test (ev_op (dat e09 0 (by decide) rfl) ev_c (rv_eq rfl))) (fun _ H10 e10 => ?_) (fun _ H10 e10 => ?_)
    · exact s_ret (ev_op ev_lit (ev_var rfl) (rv_addS (by show 1 + _ ≤ _; omega))) fun H11 e11 => q _ (by rw [List.length_append]; show 1 + _ ≤ _; omega) (Ch.app (by unfold Ch; decide +kernel) hch) H11 ((e09.trans e10).trans e11)
    have e10' := e09.trans e10
    obtain ⟨k, hk⟩ : ∃ k : Nat, rs.getD 2 0 = (k : Int) := ⟨(rs.getD 2 0).toNat, by omega⟩
    obtain ⟨t, ht, htl, htc⟩ := bads_ok k (by omega)
    refine s_ret (v := .str (S t)) (ev_ixNew (K := K) (xs := BADS.map V.str) (el_lst (ea_cons ev_c (ea_cons ev_c (ea_cons ev_c (ea_cons ev_c (ea_cons ev_c (ea_cons ev_c (ea_cons ev_c (ea_cons ev_c (ea_cons ev_c (ea_cons ev_c (ea_cons ev_c ea_nil))))))))))) (by show 11 ≤ 100000; decide)) (fun H11 e11 => dat (e10'.trans e11) 2 (by decide) rfl) (by rw [hk]; exact atI_nat (by rw [List.getElem?_map, ht]; rfl))) fun H11 e11 => q t (by omega) htc H11 (e10'.trans e11)
end
end My

set_option Elab.async false
set_option linter.all false
set_option maxRecDepth 100000
set_option maxHeartbeats 4000000
namespace My
/-! ### a row of words of which each is one that came before, and one letter more -/
theorem read_piece {t : List Nat} {rows : List (Nat × Nat)} (h : CutOk t rows 0) : ∀ i, i ≤ rows.length → ((piF rows).getD i []).foldl stepC (rows, 0) = (rows, i) := by
  intro i
  induction i using Nat.strongRecOn with
  | ind i ih =>
    intro hi
    match i with
    | 0 => rw [piF_zero]; rfl
    | j + 1 =>
      obtain ⟨r, hr⟩ : ∃ r, rows[j]? = some r := ⟨_, List.getElem?_eq_getElem (by omega)⟩
      have hp := h.par _ _ hr
      rw [piF_row h.par hr, List.foldl_append, ih r.1 (by omega) (by omega)]
      show stepC (rows, r.1) r.2 = _
      unfold stepC
      cases e : ixR 1 rows (r.1, r.2) with
      | none => exact absurd (List.mem_of_getElem? hr) (ixR_none e)
      | some k =>
        obtain ⟨a, b⟩ := ixR_some e
        have h1 := (List.getElem?_eq_some_iff.mp b).1
        have h2 := (List.getElem?_eq_some_iff.mp hr).1
        have : k - 1 = j := nodup_idx h.nd h1 h2 ((List.getElem?_eq_some_iff.mp b).2.trans (List.getElem?_eq_some_iff.mp hr).2.symm)
        show (rows, k) = (rows, j + 1)
        congr 1
        omega
theorem read_word {t : List Nat} {rows : List (Nat × Nat)} (h : CutOk t rows 0) {i c : Nat} (hi : i ≤ rows.length) (hw : (piF rows).getD i [] ++ [c] ∉ piF rows) :
    ((piF rows).getD i [] ++ [c]).foldl stepC (rows, 0) = (rows ++ [(i, c)], 0) := by
  rw [List.foldl_append, read_piece h i hi]
  show stepC (rows, i) c = _
  unfold stepC
  cases e : ixR 1 rows (i, c) with
  | none => rfl
  | some k =>
    obtain ⟨a, b⟩ := ixR_some e
    refine absurd ?_ hw
    rw [← piF_row h.par b]
    have h1 := (List.getElem?_eq_some_iff.mp b).1
    have hl := piF_len rows
    rw [List.getD_eq_getElem?_getD, List.getElem?_eq_getElem (by omega)]
    exact List.getElem_mem _
theorem cutOk_fold : ∀ (cs : List Nat) {t : List Nat} {s : List (Nat × Nat) × Nat}, CutOk t s.1 s.2 → CutOk (t ++ cs) (cs.foldl stepC s).1 (cs.foldl stepC s).2
  | [], t, s, h => by rw [List.append_nil]; exact h
  | c :: cs, t, s, h => by
    have := cutOk_fold cs (cutOk_step (c := c) h)
    rw [List.append_assoc] at this
    exact this
inductive Gro : List (List Nat) → Prop
  | nil : Gro []
  | snoc {ws : List (List Nat)} {p : List Nat} {c : Nat} : Gro ws → p ∈ [] :: ws → p ++ [c] ∉ ws → Gro (ws ++ [p ++ [c]])
theorem Gro.ne {ws : List (List Nat)} (h : Gro ws) : ∀ w ∈ ws, w ≠ [] := by
  induction h with
  | nil => exact fun w h => absurd h List.not_mem_nil
  | snoc _ _ _ ih =>
    intro w hw
    rcases List.mem_append.mp hw with hw | hw
    · exact ih w hw
    · rw [List.mem_singleton.mp hw]; exact fun z => by simp at z
theorem Gro.cut {ws : List (List Nat)} (h : Gro ws) : ∃ rows, ws.flatten.foldl stepC ([], 0) = (rows, 0) ∧ piF rows = [] :: ws ∧ CutOk ws.flatten rows 0 := by
  induction h with
  | nil => exact ⟨[], rfl, rfl, cutOk_nil⟩
  | @snoc ws p c _ hp hn ih =>
    obtain ⟨rows, e, ep, ok⟩ := ih
    have hl := piF_len rows
    obtain ⟨i, hi, hg⟩ : ∃ i, i ≤ rows.length ∧ (piF rows).getD i [] = p := by
      rw [← ep] at hp
      obtain ⟨i, hi, rfl⟩ := List.mem_iff_getElem.mp hp
      exact ⟨i, by omega, by rw [List.getD_eq_getElem?_getD, List.getElem?_eq_getElem hi]; rfl⟩
    have hw : (piF rows).getD i [] ++ [c] ∉ piF rows := by
      rw [hg, ep]
      intro z
      rcases List.mem_cons.mp z with z | z
      · simp at z
      · exact hn z
    have hr := read_word ok hi hw
    rw [hg] at hr
    have ef : (ws ++ [p ++ [c]]).flatten = ws.flatten ++ (p ++ [c]) := by rw [List.flatten_append]; simp
    refine ⟨rows ++ [(i, c)], ?_, ?_, ?_⟩
    · rw [ef, List.foldl_append, e, hr]
    · rw [piF_snoc]
      show piF rows ++ [(piF rows).getD i [] ++ [c]] = _
      rw [hg, ep]
      rfl
    · have := cutOk_fold (p ++ [c]) (s := (rows, 0)) ok
      rw [hr] at this
      rw [ef]
      exact this
theorem Gro.tail {ws : List (List Nat)} (h : Gro ws) {t : List Nat} (ht : t ∈ [] :: ws) : (cutC (ws.flatten ++ t)).1.length = ws.length := by
  obtain ⟨rows, e, ep, ok⟩ := h.cut
  have hl := piF_len rows
  have hl2 : rows.length = ws.length := by
    rw [ep, List.length_cons] at hl
    omega
  rw [← ep] at ht
  obtain ⟨i, hi, rfl⟩ := List.mem_iff_getElem.mp ht
  unfold cutC
  rw [List.foldl_append, e]
  have := read_piece ok i (by omega)
  rw [List.getD_eq_getElem?_getD, List.getElem?_eq_getElem hi] at this
  rw [show (piF rows)[i] = ((some (piF rows)[i] : Option (List Nat)).getD []) from rfl, this]
  exact hl2
theorem Gro.take {ws : List (List Nat)} (h : Gro ws) : ∀ m, Gro (ws.take m) := by
  induction h with
  | nil => intro m; rw [List.take_nil]; exact .nil
  | @snoc ws p c h hp hn ih =>
    intro m
    by_cases hm : m ≤ ws.length
    · rw [List.take_append_of_le_length hm]; exact ih m
    · rw [List.take_of_length_le (by rw [List.length_append, List.length_singleton]; omega)]
      exact .snoc h hp hn
/-! ### the words of one letter, and the others -/
def hdF (l : List Nat) : Nat := l.getD 0 0
def onF (l : List Nat) (k : Nat) : List Nat := List.replicate k (hdF l)
def isO (l w : List Nat) : Bool := decide (w ≠ onF l w.length)
def otF (l : List Nat) (n : Nat) : List (List Nat) := (tsF l n).filter (isO l)
def onsF (l : List Nat) (k : Nat) : List (List Nat) := (List.range k).map fun i => onF l (i + 1)
def lgF (l : List Nat) (n : Nat) : Nat := n - (otF l n).length
theorem on_len (l : List Nat) (k : Nat) : (onF l k).length = k := List.length_replicate
theorem ons_len (l : List Nat) (k : Nat) : (onsF l k).length = k := by unfold onsF; rw [List.length_map, List.length_range]
theorem on_inj {l : List Nat} {i j : Nat} (h : onF l i = onF l j) : i = j := by
  have := congrArg List.length h
  rwa [on_len, on_len] at this
theorem ons_mem {l w : List Nat} {k : Nat} : w ∈ onsF l k ↔ ∃ i, 1 ≤ i ∧ i ≤ k ∧ w = onF l i := by
  unfold onsF
  rw [List.mem_map]
  constructor
  · rintro ⟨i, hi, rfl⟩
    exact ⟨i + 1, by omega, List.mem_range.mp hi, rfl⟩
  · rintro ⟨i, h1, h2, rfl⟩
    exact ⟨i - 1, List.mem_range.mpr (by omega), by rw [Nat.sub_add_cancel h1]⟩
theorem on_succ (l : List Nat) (k : Nat) : onF l (k + 1) = onF l k ++ [hdF l] := by
  unfold onF
  rw [List.replicate_succ']
theorem ons_succ (l : List Nat) (k : Nat) : onsF l (k + 1) = onsF l k ++ [onF l (k + 1)] := by
  unfold onsF
  rw [List.range_succ, List.map_append]
  rfl
theorem ts_succ (l : List Nat) (n : Nat) : tsF l (n + 1) = tsF l n ++ [wdF l (n + 1)] := by
  unfold tsF
  rw [List.range_succ, List.map_append]
  rfl
theorem ot_succ (l : List Nat) (n : Nat) : otF l (n + 1) = otF l n ++ (if isO l (wdF l (n + 1)) then [wdF l (n + 1)] else []) := by
  unfold otF
  rw [ts_succ, List.filter_append]
  congr 1
  by_cases z : isO l (wdF l (n + 1)) = true
  · rw [if_pos z, List.filter_cons_of_pos z]; rfl
  · rw [if_neg z, List.filter_cons_of_neg z]; rfl
theorem ot_le (l : List Nat) (n : Nat) : (otF l n).length ≤ n := by
  have := List.length_filter_le (isO l) (tsF l n)
  rw [ts_len] at this
  exact this
theorem isO_of {l w : List Nat} : isO l w = false ↔ w = onF l w.length := by
  unfold isO
  rw [decide_eq_false_iff_not, Decidable.not_not]
theorem ts_mem {l w : List Nat} {n : Nat} : w ∈ tsF l n ↔ ∃ j, 1 ≤ j ∧ j ≤ n ∧ w = wdF l j := by
  unfold tsF
  rw [List.mem_map]
  constructor
  · rintro ⟨i, hi, rfl⟩
    exact ⟨i + 1, by omega, List.mem_range.mp hi, rfl⟩
  · rintro ⟨i, h1, h2, rfl⟩
    exact ⟨i - 1, List.mem_range.mpr (by omega), by rw [Nat.sub_add_cancel h1]⟩
structure StO (l : List Nat) (n : Nat) : Prop where
  up : ∀ j, 1 ≤ j → j ≤ n → isO l (wdF l j) = false → ∃ k, 1 ≤ k ∧ k ≤ lgF l n ∧ wdF l j = onF l k
  dn : ∀ k, 1 ≤ k → k ≤ lgF l n → ∃ j, j ≤ n ∧ wdF l j = onF l k
  tot : 2 * (otF l n).flatten.length + lgF l n * (lgF l n + 1) = 2 * tlF l n
theorem stO {l : List Nat} (nd : l.Nodup) (h1 : 1 ≤ l.length) : ∀ n, StO l n
  | 0 => ⟨fun j a b => by omega, fun k a b => by
      unfold lgF at b
      omega, by
      have e : otF l 0 = [] := rfl
      unfold lgF
      rw [e]
      rfl⟩
  | n + 1 => by
    have ih := stO nd h1 n
    have hle := ot_le l n
    cases e : isO l (wdF l (n + 1)) with
    | true =>
      have e1 : otF l (n + 1) = otF l n ++ [wdF l (n + 1)] := by rw [ot_succ, e]; rfl
      have e2 : lgF l (n + 1) = lgF l n := by
        unfold lgF
        rw [e1, List.length_append, List.length_singleton]
        omega
      refine ⟨fun j a b c => ?_, fun k a b => ?_, ?_⟩
      · rw [e2]
        rcases Nat.lt_or_eq_of_le b with b | b
        · exact ih.up j a (by omega) c
        · subst b; rw [e] at c; exact absurd c (by decide)
      · rw [e2] at b
        obtain ⟨j, hj, ej⟩ := ih.dn k a b
        exact ⟨j, by omega, ej⟩
      · rw [e2, e1, tl_succ, List.flatten_append, List.length_append]
        have := ih.tot
        have e3 : [wdF l (n + 1)].flatten = wdF l (n + 1) := by simp
        rw [e3]
        omega
    | false =>
      have e1 : otF l (n + 1) = otF l n := by rw [ot_succ, e]; simp
      have e2 : lgF l (n + 1) = lgF l n + 1 := by
        unfold lgF
        rw [e1]
        omega
      have ew := isO_of.mp e
      -- its length
      have hlen : (wdF l (n + 1)).length = lgF l n + 1 := by
        have hup : (wdF l (n + 1)).length ≤ lgF l n + 1 := by
          have hs := wd_succ l n
          have hpl : (wdF l (n + 1)).length = (wdF l (n / l.length)).length + 1 := by rw [hs, List.length_append]; rfl
          have hpo : wdF l (n / l.length) = onF l (wdF l (n / l.length)).length := by
            rw [hpl, on_succ, hs] at ew
            exact (List.append_inj' ew rfl).1
          have hd : n / l.length ≤ n := Nat.div_le_self _ _
          rw [hpl]
          by_cases z : n / l.length = 0
          · rw [z, wd_zero]; simp
          · obtain ⟨k, k1, k2, k3⟩ := ih.up (n / l.length) (Nat.pos_of_ne_zero z) hd (isO_of.mpr hpo)
            have := congrArg List.length k3
            rw [on_len] at this
            omega
        have hpos := wd_pos (l := l) n
        by_cases z : (wdF l (n + 1)).length = lgF l n + 1
        · exact z
        · obtain ⟨j, hj, ej⟩ := ih.dn (wdF l (n + 1)).length hpos (by omega)
          have := wd_inj nd h1 (ej.trans ew.symm)
          omega
      refine ⟨fun j a b c => ?_, fun k a b => ?_, ?_⟩
      · rw [e2]
        rcases Nat.lt_or_eq_of_le b with b | b
        · obtain ⟨k, k1, k2, k3⟩ := ih.up j a (by omega) c
          exact ⟨k, k1, by omega, k3⟩
        · subst b
          exact ⟨lgF l n + 1, by omega, Nat.le_refl _, by rw [ew, hlen]⟩
      · rw [e2] at b
        rcases Nat.lt_or_eq_of_le b with b | b
        · obtain ⟨j, hj, ej⟩ := ih.dn k a (by omega)
          exact ⟨j, by omega, ej⟩
        · subst b
          exact ⟨n + 1, Nat.le_refl _, by rw [ew, hlen]⟩
      · rw [e2, e1, tl_succ, hlen]
        have := ih.tot
        have e3 : (lgF l n + 1) * (lgF l n + 1 + 1) = lgF l n * (lgF l n + 1) + 2 * (lgF l n + 1) := by
          rw [Nat.add_mul, Nat.mul_add, Nat.mul_add, Nat.mul_add]
          omega
        omega
theorem ot_mem {l w : List Nat} {n : Nat} (h : w ∈ otF l n) : (∃ j, 1 ≤ j ∧ j ≤ n ∧ w = wdF l j) ∧ isO l w = true := by
  have := List.mem_filter.mp h
  exact ⟨ts_mem.mp this.1, this.2⟩
theorem gro_ons (l : List Nat) : ∀ k, Gro (onsF l k)
  | 0 => .nil
  | k + 1 => by
    rw [ons_succ, on_succ]
    refine .snoc (gro_ons l k) ?_ fun z => ?_
    · by_cases hk : k = 0
      · subst hk; exact List.mem_cons_self
      · exact List.mem_cons_of_mem _ (ons_mem.mpr ⟨k, by omega, Nat.le_refl _, rfl⟩)
    · rw [← on_succ] at z
      obtain ⟨i, _, hi, e⟩ := ons_mem.mp z
      have := on_inj e
      omega
theorem gro_all {l : List Nat} (nd : l.Nodup) (h1 : 1 ≤ l.length) {n k : Nat} (hk : lgF l n ≤ k) : ∀ m, m ≤ n → Gro (onsF l k ++ otF l m)
  | 0, _ => by
    have e : otF l 0 = [] := rfl
    rw [e, List.append_nil]
    exact gro_ons l k
  | m + 1, hm => by
    have ih := gro_all nd h1 hk m (by omega)
    rw [ot_succ]
    cases e : isO l (wdF l (m + 1)) with
    | false =>
      show Gro (onsF l k ++ (otF l m ++ []))
      rw [List.append_nil]; exact ih
    | true =>
      show Gro (onsF l k ++ (otF l m ++ [wdF l (m + 1)]))
      rw [← List.append_assoc, wd_succ]
      have hd : m / l.length ≤ m := Nat.div_le_self _ _
      refine .snoc ih ?_ fun z => ?_
      · by_cases h0 : m / l.length = 0
        · rw [h0, wd_zero]; exact List.mem_cons_self
        · refine List.mem_cons_of_mem _ (List.mem_append.mpr ?_)
          cases e2 : isO l (wdF l (m / l.length)) with
          | true => exact Or.inr (List.mem_filter.mpr ⟨ts_mem.mpr ⟨_, Nat.pos_of_ne_zero h0, hd, rfl⟩, e2⟩)
          | false =>
            obtain ⟨i, i1, i2, i3⟩ := (stO nd h1 n).up (m / l.length) (Nat.pos_of_ne_zero h0) (by omega) e2
            exact Or.inl (ons_mem.mpr ⟨i, i1, by omega, i3⟩)
      · rw [← wd_succ] at z
        rcases List.mem_append.mp z with z | z
        · obtain ⟨i, _, _, ei⟩ := ons_mem.mp z
          have : isO l (wdF l (m + 1)) = false := isO_of.mpr (by rw [ei, on_len])
          rw [e] at this
          exact absurd this (by decide)
        · obtain ⟨⟨j, _, hj, ej⟩, _⟩ := ot_mem z
          have := wd_inj nd h1 ej
          omega
theorem wdl7 (l : List Nat) : ∀ n, (wdF l n).length ≤ n := by
  intro n
  induction n using Nat.strongRecOn with
  | ind n ih =>
    match n with
    | 0 => rw [wd_zero]; exact Nat.le_refl _
    | n + 1 =>
      rw [wd_succ, List.length_append]
      have hd : n / l.length ≤ n := Nat.div_le_self _ _
      have := ih (n / l.length) (by omega)
      show _ + 1 ≤ _
      omega
/-! ### the text with so many pieces -/
/-- the sum of letters after i turns -/
def twT (l : List Nat) (n i : Nat) : Nat := (lgF l n + i) * (lgF l n + i + 1) / 2 + ((otF l n).take ((otF l n).length - i)).flatten.length
def twI (l : List Nat) (far n : Nat) : Nat := ((List.range ((otF l n).length + 1)).find? fun i => decide (far ≤ twT l n i + (lgF l n + i))).getD 0
def twO (l : List Nat) (n i : Nat) : List (List Nat) := (otF l n).take ((otF l n).length - i)
def twF (l : List Nat) (far n : Nat) : List Nat :=
  (onsF l (lgF l n + twI l far n)).flatten ++ (twO l n (twI l far n)).flatten ++ onF l (far - twT l n (twI l far n))
theorem twI_is {l : List Nat} {far n i : Nat} (hi : i ≤ (otF l n).length) (h : far ≤ twT l n i + (lgF l n + i)) (hb : ∀ j, j < i → twT l n j + (lgF l n + j) < far) : twI l far n = i := by
  unfold twI
  have : (List.range ((otF l n).length + 1)).find? (fun i => decide (far ≤ twT l n i + (lgF l n + i))) = some i := by
    rw [List.find?_range_eq_some]
    refine ⟨decide_eq_true h, List.mem_range.mpr (by omega), fun j hj => ?_⟩
    have := hb j hj
    rw [Bool.not_eq_true', decide_eq_false_iff_not]
    omega
  rw [this]
  rfl
theorem tri_even (k : Nat) : 2 * (k * (k + 1) / 2) = k * (k + 1) := by
  have : k * (k + 1) % 2 = 0 := by
    rcases Nat.mod_two_eq_zero_or_one k with h | h
    · rw [Nat.mul_mod, h, Nat.zero_mul]
    · rw [Nat.mul_mod, show (k + 1) % 2 = 0 by omega, Nat.mul_zero]
  omega
theorem tri_succ (k : Nat) : (k + 1) * (k + 1 + 1) / 2 = k * (k + 1) / 2 + (k + 1) := by
  have h1 := tri_even k
  have h2 := tri_even (k + 1)
  have e3 : (k + 1) * (k + 1 + 1) = k * (k + 1) + 2 * (k + 1) := by
    rw [Nat.add_mul, Nat.mul_add, Nat.mul_add, Nat.mul_add]
    omega
  omega
theorem tw_zero {l : List Nat} (nd : l.Nodup) (h1 : 1 ≤ l.length) (n : Nat) : twT l n 0 = tlF l n := by
  unfold twT
  rw [Nat.sub_zero, List.take_length]
  have h := (stO nd h1 n).tot
  have h2 := tri_even (lgF l n)
  rw [Nat.add_zero]
  omega
theorem tw_last (l : List Nat) (n : Nat) : twT l n (otF l n).length = n * (n + 1) / 2 := by
  unfold twT
  have := ot_le l n
  have e : lgF l n + (otF l n).length = n := by unfold lgF; omega
  rw [e, Nat.sub_self]
  rfl
theorem tw_pop {l : List Nat} {n i : Nat} (hi : i < (otF l n).length) : ∃ w, twO l n i = twO l n (i + 1) ++ [w] ∧ 1 ≤ w.length ∧ w.length ≤ n ∧ twT l n (i + 1) + w.length = twT l n i + (lgF l n + (i + 1)) := by
  refine ⟨(otF l n)[(otF l n).length - (i + 1)]'(by omega), ?_, ?_, ?_, ?_⟩
  · unfold twO
    have e : (otF l n).length - i = (otF l n).length - (i + 1) + 1 := by omega
    rw [e, List.take_add_one, List.getElem?_eq_getElem (by omega)]
    rfl
  · obtain ⟨⟨j, j1, _, ej⟩, _⟩ := ot_mem (List.getElem_mem (l := otF l n) (n := (otF l n).length - (i + 1)) (by omega))
    rw [ej, show j = j - 1 + 1 by omega]
    exact wd_pos _
  · obtain ⟨⟨j, j1, j2, ej⟩, _⟩ := ot_mem (List.getElem_mem (l := otF l n) (n := (otF l n).length - (i + 1)) (by omega))
    rw [ej]
    exact Nat.le_trans (wdl7 l j) j2
  · unfold twT
    have e : (otF l n).length - i = (otF l n).length - (i + 1) + 1 := by omega
    rw [e, List.take_add_one, List.getElem?_eq_getElem (by omega), List.flatten_append, List.length_append]
    have e2 : ((some ((otF l n)[(otF l n).length - (i + 1)]'(by omega))).toList : List (List Nat)).flatten = (otF l n)[(otF l n).length - (i + 1)]'(by omega) := by simp
    rw [e2]
    have := tri_succ (lgF l n + i)
    rw [show lgF l n + (i + 1) = lgF l n + i + 1 by omega]
    omega
theorem ons_flat (l : List Nat) : ∀ k, (onsF l k).flatten.length = k * (k + 1) / 2
  | 0 => rfl
  | k + 1 => by
    rw [ons_succ, List.flatten_append, List.length_append, ons_flat l k, tri_succ]
    have e : [onF l (k + 1)].flatten = onF l (k + 1) := by simp
    rw [e, on_len]
structure TwOk (l : List Nat) (far n : Nat) (t : List Nat) : Prop where
  len : t.length = far
  sub : ∀ c ∈ t, c ∈ l
  cut : (cutC t).1.length = n
theorem twOk {l : List Nat} (nd : l.Nodup) (h1 : 1 ≤ l.length) {far n i : Nat} (hi : i ≤ (otF l n).length) (h : far ≤ twT l n i + (lgF l n + i)) (hle : twT l n i ≤ far) (hb : ∀ j, j < i → twT l n j + (lgF l n + j) < far) : TwOk l far n (twF l far n) := by
  have ei := twI_is hi h hb
  unfold twF
  rw [ei]
  have hot := ot_le l n
  have hg : Gro (onsF l (lgF l n + i) ++ twO l n i) := by
    have := (gro_all nd h1 (Nat.le_add_right (lgF l n) i) n (Nat.le_refl _)).take (lgF l n + i + ((otF l n).length - i))
    have e : (onsF l (lgF l n + i) ++ otF l n).take (lgF l n + i + ((otF l n).length - i)) = onsF l (lgF l n + i) ++ twO l n i := by
      have := List.take_length_add_append (l₁ := onsF l (lgF l n + i)) (l₂ := otF l n) ((otF l n).length - i)
      rw [ons_len] at this
      exact this
    rwa [e] at this
  have hhd : hdF l ∈ l := by
    unfold hdF
    rw [List.getD_eq_getElem?_getD, List.getElem?_eq_getElem h1]
    exact List.getElem_mem _
  have hon : ∀ k, ∀ c ∈ onF l k, c ∈ l := fun k c hc => by rw [(List.mem_replicate.mp hc).2]; exact hhd
  refine ⟨?_, ?_, ?_⟩
  · rw [List.length_append, List.length_append, ons_flat, on_len]
    have : (lgF l n + i) * (lgF l n + i + 1) / 2 + (twO l n i).flatten.length = twT l n i := rfl
    omega
  · intro c hc
    rcases List.mem_append.mp hc with hc | hc
    · rcases List.mem_append.mp hc with hc | hc
      · obtain ⟨w, hw, hcw⟩ := List.mem_flatten.mp hc
        obtain ⟨k, _, _, rfl⟩ := ons_mem.mp hw
        exact hon k c hcw
      · obtain ⟨w, hw, hcw⟩ := List.mem_flatten.mp hc
        obtain ⟨⟨j, _, _, rfl⟩, _⟩ := ot_mem (List.mem_of_mem_take hw)
        exact wd_sub h1 j c hcw
    · exact hon _ c hc
  · rw [← List.flatten_append]
    rw [hg.tail (t := onF l (far - twT l n i)) ?_]
    · rw [List.length_append, ons_len]
      unfold twO
      rw [List.length_take]
      unfold lgF
      omega
    · by_cases z : far - twT l n i = 0
      · rw [z]; exact List.mem_cons_self
      · exact List.mem_cons_of_mem _ (List.mem_append_left _ (ons_mem.mpr ⟨_, by omega, by omega, rfl⟩))
end My

set_option Elab.async false
set_option linter.all false
set_option maxRecDepth 100000
set_option maxHeartbeats 4000000
namespace My
open PySem PySem.Spec PyProof.Rows L2 Evl
open SX (S S_len S_cat S_beq S_beq_eq S_inj S_tl)
/-- the facts of the law's except clause -/
structure Ex8 (K : PySem.W.Frag) (mg : Str → Option Value) (CB CP CL CI CK CW CT CO : Addr) : Prop where
  mP : mg "PressError" = some (.ref CP)
  mB : mg "BadAlphabet" = some (.ref CB)
  mL : mg "BadLetter" = some (.ref CL)
  mI : mg "BadIndex" = some (.ref CI)
  mK : mg "BadRank" = some (.ref CK)
  mW : mg "BadRow" = some (.ref CW)
  mT : mg "BadTail" = some (.ref CT)
  mO : mg "TooLarge" = some (.ref CO)
  mV : mg "ValueError" = none
  xf : XfC K CB
  xc : ExcC K CB
  no : PySem.W.findIn K (.ref CB) "alphabet" = some none
  exm : PySem.W.exmOne K (.ref CB) (.ref CP) = some true
  kV : PySem.W.kitOne K (.ref CB) (.type "ValueError") = some true
  kT : PySem.W.kitAny K (.ref CB) [.ref CL, .ref CI, .ref CK, .ref CW, .ref CT, .ref CO] = some false
theorem kit_self {K : PySem.W.Frag} {C : Addr} : PySem.W.kitOne K (.ref C) (.ref C) = some true := by
  unfold PySem.W.kitOne
  rw [if_pos (beq_self_eq_true _)]
section
variable {P : Program} {w : World} {K : PySem.W.Frag} {mg : Str → Option Value} {base : Heap} {x : Str} {st : Stmt} {N ps : List Str} {k : Nat} {sp : Sp}
/-- a def that lets nothing out, with a try in it -/
theorem dn0_ok (F : At K mg x st) (S : FnScope N ps (defScope st))
    (hb : ∀ (kV doc pm : Value) (an : Option Addr) (cdv ct : Value) (us : List Value), us.length = ps.length → bindArgs (PySem.W.fnOf x x (defArgs st) (defBody st) (defScope st) .none kV doc pm an cdv ct) ⟨us, []⟩ = pure (ps.zip us))
    (len : ∀ vs H Q E, sp vs H Q E → vs.length = ps.length)
    (hbody : ∀ (f : Addr) (cdv : Value) (A : Around) (outer : List Env) (s : Shared) (H : Hp) (vs : List V) (Q : VK) (E : XK), Room k (A.deeper (envOfC x (defScope st) s.heap.objs.size f cdv)) → sp vs H Q E →
      ∃ t, PSs (cxOf CX0 P w K mg base N x (defScope st) f cdv A outer s H E) (defBody st) t ∧ t { nx := fun _ H' => Q .non H', rt := Q } (start N vs) H) : Dn P w K mg base (k + 1) x st ps sp := by
  obtain ⟨f, fd, F, g⟩ := F.ex
  exact ⟨f, fd, F, FunD.ok F S len (fun cdv A outer s H vs Q E hr h => hbody f cdv A outer s H vs Q E hr h), g, F.bindsN hb⟩
end
section
variable {P : Program} {w : World} {K : PySem.W.Frag} {mg : Str → Option Value} {base : Heap}
variable {CG CC CB CP CL CI CK CW CT CO : Addr}
end
end My

set_option Elab.async false
set_option linter.all false
set_option maxRecDepth 100000
set_option maxHeartbeats 4000000
namespace My
open PySem PySem.Spec PyProof.Rows L2 Evl
open SX (S S_len S_cat S_beq S_beq_eq S_inj S_tl)
section
variable {K : PySem.W.Frag} {σ : L2.St} {H : Hp} {ta tb te tl : TE} {x y z v : V} {D : Ends} {tu tz : TS}
end
section
variable {K : PySem.W.Frag} {σ : L2.St} {H : Hp} {ta tb te tl : TE} {x y z v : V} {D : Ends} {tu tz : TS}
end
theorem cw8 {i j : Int} (h1 : i.natAbs ≤ 100000) (h2 : j.natAbs ≤ 100000) : CMulW i j := by
  have e : ∀ n : Nat, n ≤ 100000 → n.log2 < 17 := fun n hn => by
    by_cases z : n = 0
    · subst z; decide
    · exact (Nat.log2_lt z).mpr (by have : (2 : Nat) ^ 17 = 131072 := by decide
                                    omega)
  have a := e _ h1
  have b := e _ h2
  unfold CMulW
  omega
def SF : List Int := [7, 401, 46, 13, 28, 3]
section
variable {P : Program} {w : World} {K : PySem.W.Frag} {mg : Str → Option Value} {base : Heap}
variable {CG CC CB : Addr}
abbrev s_law_far : Stmt := top 29
abbrev N_law_far : List Str := ["base", "row", "far", "texts", "k"]
theorem sc_law_far : FnScope N_law_far ["base", "row"] (defScope s_law_far) := ⟨rfl, rfl, rfl, by decide +kernel, rfl, by decide +kernel, by decide +kernel⟩
def spFr (K : PySem.W.Frag) : Sp := fun vs H Q _ => ∃ (b : Nat) (p : Addr) (rs : List Int), vs = [.int (b : Int), .ref p] ∧ b ≤ 6 ∧ SqL K H p (rs.map V.int) ∧ Within rs SF ∧ ∀ far : Nat, far ≤ 400 → RetV (.int (far : Int)) H Q
theorem ok_law_far (T : TT mg) (F : At K mg "_law_far" s_law_far) : Dn P w K mg base 1 "_law_far" s_law_far ["base", "row"] (spFr K) := by
  refine dn_ok F sc_law_far (fun _ _ _ _ _ _ us hl => match us, hl with | [_, _], _ => rfl) (fun vs H Q E h => ?_) (fun f cdv A outer t H vs Q E hr h => ?_)
  · obtain ⟨b, p, rs, rfl, _⟩ := h; rfl
  · obtain ⟨b, p, rs, rfl, hb, hS, hW, q⟩ := h
    have hlen : rs.length = 6 := hW.len
    refine ⟨_, (pss_cons (ps_set (i := 2) sc_law_far.nd rfl (Or.inl rfl) (pe_ix ix_list (pv 1) pe_int (fun _ _ => rfl)))
      (pss_cut (ps_if (pt_cmpR op_eq (pe_ix ix_list (pv 1) pe_int (fun _ _ => rfl)) pe_int (nomark _)) (pss_one (ps_set (i := 2) sc_law_far.nd rfl (Or.inl rfl) (pe_ix ix_list (pv 1) pe_int (fun _ _ => rfl)))) pss_nil)
      (pss_cut (ps_if (pt_cmpR op_eq (pe_ix ix_list (pv 1) pe_int (fun _ _ => rfl)) pe_int (nomark _)) (pss_one (ps_set (i := 2) sc_law_far.nd rfl (Or.inl rfl) (pe_ix ix_list (pv 1) pe_int (fun _ _ => rfl)))) pss_nil)
      (pss_cut (ps_if (pt_cmpR op_eq (pe_ix ix_list (pv 1) pe_int (fun _ _ => rfl)) pe_int (nomark _)) (pss_one (ps_set (i := 2) sc_law_far.nd rfl (Or.inl rfl) (pe_op op_sub (pe_op op_add (pe_op op_fdiv (pe_op op_mulW (pe_ix ix_list (pv 1) pe_int (fun _ _ => rfl)) (pe_op op_add (pe_ix ix_list (pv 1) pe_int (fun _ _ => rfl)) pe_int)) pe_int) (pe_ix ix_list (pv 1) pe_int (fun _ _ => rfl))) pe_int))) pss_nil)
      (pss_cut (ps_if (pt_cmpR op_gt (pe_ix ix_list (pv 1) pe_int (fun _ _ => rfl)) pe_int (nomark _)) (pss_cons (ps_set (i := 2) sc_law_far.nd rfl (Or.inl rfl) (pe_op op_sub (pe_ix ix_list (pv 1) pe_int (fun _ _ => rfl)) pe_int))
        (pss_cons (ps_set (i := 3) sc_law_far.nd rfl (Or.inl rfl) pe_int)
        (pss_one (ps_for PassesOwn.never rfl (pi_range2 (by rfl) T.range (pa_cons pe_int (pa_cons (pe_op op_add pe_int (pe_op op_mod (pe_callTy call_int1 (by rfl) T.int_ (by decide +kernel) (pa_cons (pe_ix ix_list (pv 1) pe_int (fun _ _ => rfl)) pa_nil)) pe_int)) pa_nil))) (pg_name (i := 4) sc_law_far.nd rfl (Or.inl rfl))
          (pss_cons (ps_set (i := 3) sc_law_far.nd rfl (Or.inl rfl) (pe_op op_mul (pv 3) (pv 0)))
            (pss_one (ps_if (pt_cmpR op_le (pe_op op_add (pv 2) (pe_op op_mul (pv 3) (pv 4))) pe_int (nomark _)) (pss_one (ps_set (i := 2) sc_law_far.nd rfl (Or.inl rfl) (pe_op op_add (pv 2) (pe_op op_mul (pv 3) (pv 4))))) pss_nil))))))) pss_nil)
      (pss_one (ps_ret (pe_callB (call_max2 rfl) (by rfl) T.max (by decide +kernel) (pa_cons pe_int (pa_cons (pv 2) pa_nil)))))))))), ?_⟩
    have dat : ∀ {H' : Hp}, Ex H H' → ∀ (i : Nat), i < 6 → ∀ {σ : L2.St}, σ[1]? = some (some (.ref p)) → Ev (tOp (rIxL K) (tVar 1) (tC (.int (i : Int)))) σ H' (.int (rs.getD i 0)) := fun e i hi σ hs => ev_op (ev_var hs) ev_c (rv_ixL (K := K) (ex_l e hS) (at_d (i := i) (by omega)))
    have g1 : 0 ≤ rs.getD 1 0 ∧ rs.getD 1 0 < 401 := hW.get 1 (by decide)
    have g2 : 0 ≤ rs.getD 2 0 ∧ rs.getD 2 0 < 46 := hW.get 2 (by decide)
    have g3 : 0 ≤ rs.getD 3 0 ∧ rs.getD 3 0 < 13 := hW.get 3 (by decide)
    have g4 : 0 ≤ rs.getD 4 0 ∧ rs.getD 4 0 < 28 := hW.get 4 (by decide)
    have g5 : 0 ≤ rs.getD 5 0 ∧ rs.getD 5 0 < 3 := hW.get 5 (by decide)
    have M := fun (σ' : L2.St) (H' : Hp) => ∃ (z : Int) (x y : Option V), σ' = [some (.int (b : Int)), some (.ref p), some (.int z), x, y] ∧ Ex H H' ∧ -1 ≤ z ∧ z ≤ 400
    refine q_asg (dat (Ex.refl H) 1 (by decide) rfl) fun H1 e1 => ?_
    refine q_cut (M := fun (σ' : L2.St) (H' : Hp) => ∃ (z : Int) (x y : Option V), σ' = [some (.int (b : Int)), some (.ref p), some (.int z), x, y] ∧ Ex H H' ∧ -1 ≤ z ∧ z ≤ 400) ?_ ?_
    · refine s_when (et_test (ev_op (dat e1 0 (by decide) rfl) ev_c (rv_eq rfl))) (fun _ H2 e2 => ?_) (fun _ H2 e2 => ⟨_, none, none, rfl, e1.trans e2, by omega, by omega⟩)
      exact s_asg (dat (e1.trans e2) 2 (by decide) rfl) fun H3 e3 => ⟨_, none, none, rfl, (e1.trans e2).trans e3, by omega, by omega⟩
    rintro σ' H2 ⟨z, x, y, rfl, e2, z1, z2⟩
    refine q_cut (M := fun (σ' : L2.St) (H' : Hp) => ∃ (z : Int) (x y : Option V), σ' = [some (.int (b : Int)), some (.ref p), some (.int z), x, y] ∧ Ex H H' ∧ -1 ≤ z ∧ z ≤ 400) ?_ ?_
    · refine s_when (et_test (ev_op (dat e2 0 (by decide) rfl) ev_c (rv_eq rfl))) (fun _ H3 e3 => ?_) (fun _ H3 e3 => ⟨_, _, _, rfl, e2.trans e3, z1, z2⟩)
      exact s_asg (dat (e2.trans e3) 3 (by decide) rfl) fun H4 e4 => ⟨_, _, _, rfl, (e2.trans e3).trans e4, by omega, by omega⟩
    clear e1
    rintro σ' H3 ⟨z, x, y, rfl, e3, z1, z2⟩
    refine q_cut (M := fun (σ' : L2.St) (H' : Hp) => ∃ (z : Int) (x y : Option V), σ' = [some (.int (b : Int)), some (.ref p), some (.int z), x, y] ∧ Ex H H' ∧ -1 ≤ z ∧ z ≤ 400) ?_ ?_
    · refine s_when (et_test (ev_op (dat e3 0 (by decide) rfl) ev_c (rv_eq rfl))) (fun _ H4 e4 => ?_) (fun _ H4 e4 => ⟨_, _, _, rfl, e3.trans e4, z1, z2⟩)
      have e34 := e3.trans e4
      have hmm : 0 ≤ rs.getD 4 0 * (rs.getD 4 0 + 1) ∧ rs.getD 4 0 * (rs.getD 4 0 + 1) ≤ 27 * 28 := by
        obtain ⟨m, hm⟩ : ∃ m : Nat, rs.getD 4 0 = (m : Int) := ⟨(rs.getD 4 0).toNat, by omega⟩
        rw [hm]
        have : m * (m + 1) ≤ 27 * 28 := Nat.mul_le_mul (by omega) (by omega)
        have e9 : (m : Int) * ((m : Int) + 1) = ((m * (m + 1) : Nat) : Int) := by rw [Int.natCast_mul]; rfl
        rw [e9]
        omega
      exact s_asg (ev_op (ev_op (ev_op (ev_op (dat e34 4 (by decide) rfl) (ev_op (dat e34 4 (by decide) rfl) ev_c rv_I0) (rv_I (cw8 (by omega) (by omega)))) ev_c (rv_I (by unfold CDiv; decide))) (dat e34 5 (by decide) rfl) rv_I0) ev_c rv_I0) fun H5 e5 => ⟨_, _, _, rfl, e34.trans e5, by omega, by omega⟩
    clear e2
    rintro σ' H4 ⟨z, x, y, rfl, e4, z1, z2⟩
    refine q_cut (M := fun (σ' : L2.St) (H' : Hp) => ∃ (z : Int) (x y : Option V), σ' = [some (.int (b : Int)), some (.ref p), some (.int z), x, y] ∧ Ex H H' ∧ -1 ≤ z ∧ z ≤ 400) ?_ ?_
    · refine s_when (et_test (ev_op (dat e4 0 (by decide) rfl) ev_c rv_I0)) (fun _ H5 e5 => ?_) (fun _ H5 e5 => ⟨_, _, _, rfl, e4.trans e5, z1, z2⟩)
      have e45 := e4.trans e5
      refine q_asg (ev_op (dat e45 5 (by decide) rfl) ev_c rv_I0) fun H6 e6 => ?_
      refine q_asg (v := .int ((1 : Nat) : Int)) (ev_is ev_c rfl) fun H7 e7 => ?_
      have e47 := (e45.trans e6).trans e7
      have m2 := Int.emod_nonneg (rs.getD 4 0) (show (5 : Int) ≠ 0 by decide)
      have m3 := Int.emod_lt_of_pos (rs.getD 4 0) (show (0 : Int) < 5 by decide)
      refine s_forR2 (lo := 1) (n := 2 + rs.getD 4 0 % 5) (ea_cons ev_c (ea_cons (ev_op ev_c (ev_op (ev_int (dat e47 4 (by decide) rfl)) ev_c (rv_I (show (0 : Int) < 5 by decide))) rv_I0) ea_nil)) ⟨by decide, by decide, by omega, by omega⟩
        (fun i σ' H' => ∃ (z : Int) (t : Nat) (y : Option V), σ' = [some (.int (b : Int)), some (.ref p), some (.int z), some (.int (t : Int)), y] ∧ Ex H H' ∧ -1 ≤ z ∧ z ≤ 400 ∧ t ≤ 6 ^ i) (fun H8 e8 => ⟨_, 1, _, rfl, e47.trans e8, by omega, by omega, Nat.le_refl _⟩) ?_ ?_
      · rintro i σ' H' hi ⟨z, t, y, rfl, e, z1, z2, ht⟩
        have hp : 6 ^ i ≤ 6 ^ 5 := Nat.pow_le_pow_right (by decide) (by omega)
        have h65 : (6 : Nat) ^ 5 = 7776 := by decide
        have htb : t * b ≤ 6 ^ (i + 1) := by
          rw [Nat.pow_succ]
          exact Nat.mul_le_mul ht hb
        have hp2 : 6 ^ (i + 1) ≤ 6 ^ 6 := Nat.pow_le_pow_right (by decide) (by omega)
        have h66 : (6 : Nat) ^ 6 = 46656 := by decide
        refine q_asg (v := .int ((t * b : Nat) : Int)) (ev_is (ev_op (ev_var rfl) (ev_var rfl) (rv_I (Or.inr (by omega)))) (congrArg V.int (by rw [Int.natCast_mul]))) fun H8 e8 => ?_
        have e8' := e.trans e8
        refine s_when (et_test (ev_op (ev_op (ev_var rfl) (ev_op (ev_var rfl) (ev_var rfl) (rv_I (Or.inr (by omega)))) rv_I0) ev_c rv_I0)) (fun hb H9 e9 => ?_) (fun _ H9 e9 => ⟨z, t * b, _, rfl, e8'.trans e9, z1, z2, htb⟩)
        have hle := of_decide_eq_true hb
        have hnn : 0 ≤ ((t * b : Nat) : Int) * (1 + (i : Int)) := Int.mul_nonneg (by omega) (by omega)
        exact s_asg (ev_op (ev_var rfl) (ev_op (ev_var rfl) (ev_var rfl) (rv_I (Or.inr (by omega)))) rv_I0) fun H10 e10 => ⟨_, t * b, _, rfl, (e8'.trans e9).trans e10, by omega, by omega, htb⟩
      · rintro σ' H' ⟨z, t, y, rfl, e, z1, z2, _⟩
        exact ⟨z, _, y, rfl, e, z1, z2⟩
    clear e3
    rintro σ' H5 ⟨z, x, y, rfl, e5, z1, z2⟩
    refine s_ret (v := .int (((max 0 z).toNat : Nat) : Int)) (ev_is (ev_max2 ev_c (ev_var rfl)) (congrArg V.int ?_)) fun H6 e6 => q _ (by omega) H6 (e5.trans e6)
    split <;> omega
end
end My

set_option Elab.async false
set_option linter.all false
set_option maxRecDepth 100000
set_option maxHeartbeats 4000000
namespace My
open PySem PySem.Spec PyProof.Rows L2 Evl
section
variable {P : Program} {w : World} {K : PySem.W.Frag} {mg : Str → Option Value} {base : Heap}
/-! ### shortest_total -/
abbrev s_shortest_total : Stmt := top 17
abbrev N_shortest_total : List Str := ["size", "count", "total", "rest", "length", "texts"]
theorem sc_shortest_total : FnScope N_shortest_total ["size", "count"] (defScope s_shortest_total) := ⟨rfl, rfl, rfl, by decide +kernel, rfl, by decide +kernel, by decide +kernel⟩
def spST : Sp := fun vs H Q _ => ∃ s c : Nat, vs = [.int (s : Int), .int (c : Int)] ∧ 1 ≤ s ∧ s ≤ 6 ∧ c ≤ cap ∧ RetV (.int (totF s c : Nat)) H Q
theorem ok_shortest_total (F : At K mg "shortest_total" s_shortest_total) : Dn P w K mg base 1 "shortest_total" s_shortest_total ["size", "count"] spST := by
  refine dn_ok F sc_shortest_total (fun _ _ _ _ _ _ us hl => match us, hl with | [_, _], _ => rfl) (fun vs H Q E h => ?_) (fun f cdv A outer t H vs Q E hr h => ?_)
  · obtain ⟨s, c, rfl, _⟩ := h; rfl
  · obtain ⟨s, c, rfl, h1, h6, hc, q⟩ := h
    refine ⟨_, (pss_cons (ps_if (pt_cmpR op_eq (pv 0) pe_int (nomark _)) (pss_one (ps_ret (pe_op op_fdiv (pe_op op_mulW (pv 1) (pe_op op_add (pv 1) pe_int)) pe_int))) pss_nil)
      (pss_cons (ps_set (i := 2) sc_shortest_total.nd rfl (Or.inl rfl) pe_int)
      (pss_cons (ps_set (i := 3) sc_shortest_total.nd rfl (Or.inl rfl) (pv 1))
      (pss_cons (ps_set (i := 4) sc_shortest_total.nd rfl (Or.inl rfl) pe_int)
      (pss_cons (ps_set (i := 5) sc_shortest_total.nd rfl (Or.inl rfl) (pv 0))
      (pss_cons (ps_while PassesOwn.never (pt_cmpR op_gt (pv 3) (pv 5) (nomark _))
        (pss_cons (ps_aug (i := 2) sc_shortest_total.nd rfl (Or.inl rfl) (pe_op op_mul (pv 5) (pv 4)) (pip_of iop_add))
          (pss_cons (ps_aug (i := 3) sc_shortest_total.nd rfl (Or.inl rfl) (pv 5) (pip_of iop_sub))
          (pss_cons (ps_aug (i := 4) sc_shortest_total.nd rfl (Or.inl rfl) pe_int (pip_of iop_add))
          (pss_one (ps_aug (i := 5) sc_shortest_total.nd rfl (Or.inl rfl) (pv 0) (pip_of iop_mul)))))))
      (pss_one (ps_ret (pe_op op_add (pv 2) (pe_op op_mul (pv 3) (pv 4))))))))))), ?_⟩
    refine q_when (et_test (ev_op (ev_var rfl) ev_c (rv_eq rfl))) (fun hb H1 e1 => ?_) (fun hb H1 e1 => ?_)
    · have hs : s = 1 := by
        have := of_decide_eq_true hb
        injection this
        omega
      subst hs
      rw [totF_is (by decide) (tot_one c), ← tri_cast] at q
      exact s_ret (ev_op (ev_op (ev_var rfl) (ev_op (ev_var rfl) ev_c rv_I0) (rv_I (wmul (capN hc) (by have := capN1 hc; omega)))) ev_c (rv_I (by unfold CDiv; decide))) fun H2 e2 => q H2 (e1.trans e2)
    · have hs : 2 ≤ s := by
        have := of_decide_eq_false hb
        by_cases z : s = 1
        · subst z; exact absurd rfl this
        · omega
      refine q_asg ev_c fun H2 e2 => ?_
      refine q_asg (ev_var rfl) fun H3 e3 => ?_
      refine q_asg ev_c fun H4 e4 => ?_
      refine q_asg (ev_var rfl) fun H5 e5 => ?_
      refine q_while (fun m σ H' => ∃ v rest : Nat, rest = m ∧ σ = [some (.int (s : Int)), some (.int (c : Int)), some (.int (Bn s v : Nat)), some (.int (rest : Int)), some (.int (v + 1 : Nat)), some (.int (s ^ (v + 1) : Nat))] ∧ Ex H H' ∧ c = Sn s v + rest ∧ s ^ v ≤ 6 * cap)
        c ⟨0, c, rfl, by rw [Nat.pow_one]; rfl, (((e1.trans e2).trans e3).trans e4).trans e5, by simp [Sn], by rw [Nat.pow_zero]; decide +kernel⟩ ?_
      rintro m σ' H' ⟨v, rest, rfl, rfl, e, hcr, hv⟩
      have v110 := level_small hs hv
      refine ⟨_, et_test (ev_op (ev_var rfl) (ev_var rfl) rv_I0), fun hb2 H6 e6 => ?_, fun hb2 H6 e6 => ?_⟩
      · have hlt : s ^ (v + 1) < rest := by
          have := of_decide_eq_true hb2
          omega
        refine ⟨fun σ2 H2 => ∃ m', m' < rest ∧ ∃ v rest : Nat, rest = m' ∧ σ2 = [some (.int (s : Int)), some (.int (c : Int)), some (.int (Bn s v : Nat)), some (.int (rest : Int)), some (.int (v + 1 : Nat)), some (.int (s ^ (v + 1) : Nat))] ∧ Ex H H2 ∧ c = Sn s v + rest ∧ s ^ v ≤ 6 * cap, fun _ _ h => h, ?_⟩
        refine q_augR rfl (ev_op (ev_var rfl) (ev_var rfl) (rv_I (Or.inr (by omega)))) rv_I0 fun H7 e7 => ?_
        refine q_augR rfl (ev_var rfl) rv_I0 fun H8 e8 => ?_
        refine q_augR rfl ev_c rv_I0 fun H9 e9 => ?_
        refine s_augR rfl (ev_var rfl) (rv_I (Or.inr (by omega))) fun H10 e10 => ?_
        have hp := pow_pos' (show 1 ≤ s by omega) (v + 1)
        refine ⟨rest - s ^ (v + 1), by omega, v + 1, rest - s ^ (v + 1), rfl, ?_, ((((e.trans e6).trans e7).trans e8).trans e9).trans e10, ?_, by omega⟩
        · have e1 : ((rest : Nat) : Int) - ((s ^ (v + 1) : Nat) : Int) = ((rest - s ^ (v + 1) : Nat) : Int) := by omega
          rw [← cB, ← cP, ← cN, ← e1]
          rfl
        · show c = Sn s v + s ^ (v + 1) + (rest - s ^ (v + 1))
          omega
      · have hge : rest ≤ s ^ (v + 1) := by
          have := of_decide_eq_false hb2
          omega
        have ht : totF s c = Bn s v + (v + 1) * rest := totF_is (by omega) ⟨v, rest, hcr, hge, rfl⟩
        have ev : ((totF s c : Nat) : Int) = ((Bn s v : Nat) : Int) + ((rest : Nat) : Int) * ((v + 1 : Nat) : Int) := by
          rw [ht, Int.natCast_add, Int.natCast_mul, Int.mul_comm]
        rw [ev] at q
        exact s_ret (ev_op (ev_var rfl) (ev_op (ev_var rfl) (ev_var rfl) (rv_I (Or.inr (by omega)))) rv_I0) fun H7 e7 => q H7 ((e.trans e6).trans e7)
theorem sv_st {s c : Nat} {H : Hp} (h1 : 1 ≤ s) (h6 : s ≤ 6) (hc : c ≤ cap) : SpV spST [.int (s : Int), .int (c : Int)] H (.int (totF s c : Nat)) := fun _ _ _ q _ => ⟨s, c, rfl, h1, h6, hc, q⟩
/-! ### greatest_count -/
end
end My

set_option Elab.async false
set_option linter.all false
set_option maxRecDepth 100000
set_option maxHeartbeats 4000000
namespace My
open PySem PySem.Spec PyProof.Rows L2 Evl
/-! ### the plain list of lengths -/
section
variable {P : Program} {w : World} {K : PySem.W.Frag} {mg : Str → Option Value} {base : Heap}
/-! ### least_count -/
abbrev s_least_count : Stmt := top 19
abbrev N_least_count : List Str := ["length", "below"]
theorem sc_least_count : FnScope N_least_count ["length"] (defScope s_least_count) := ⟨rfl, rfl, rfl, by decide +kernel, rfl, by decide +kernel, by decide +kernel⟩
def spLeC : Sp := fun vs H Q _ => ∃ L : Nat, vs = [.int (L : Int)] ∧ L ≤ cap ∧ RetV (.int (grF 1 L : Nat)) H Q
theorem ok_least_count (TI : mg "isqrt" = some (.builtin "math.isqrt")) (F : At K mg "least_count" s_least_count) : Dn P w K mg base 1 "least_count" s_least_count ["length"] spLeC := by
  refine dn_ok F sc_least_count (fun _ _ _ _ _ _ us hl => match us, hl with | [_], _ => rfl) (fun vs H Q E h => ?_) (fun f cdv A outer t H vs Q E hr h => ?_)
  · obtain ⟨L, rfl, _⟩ := h; rfl
  · obtain ⟨L, rfl, hL, q⟩ := h
    refine ⟨_, (pss_cons (ps_set (i := 1) sc_least_count.nd rfl (Or.inl rfl) (pe_op op_fdiv (pe_op op_sub (pe_callBfun cr_isqrt (by rfl) TI (pa_cons (pe_op op_add (pe_op op_mul pe_int (pv 0)) pe_int) pa_nil)) pe_int) pe_int))
      (pss_cons (ps_if (pt_cmpR op_lt (pe_op op_mulW (pv 1) (pe_op op_add (pv 1) pe_int)) (pe_op op_mul pe_int (pv 0)) (nomark _)) (pss_one (ps_ret (pe_op op_add (pv 1) pe_int))) pss_nil)
      (pss_one (ps_ret (pv 1))))), ?_⟩
    have hL2 := cap_lt
    have hi := PySem.Float64.isqrt_spec (8 * L + 9)
    have hle := le_uniq (le_of hi.1 hi.2) (gr_le (grF_spec (s := 1) (L := L) (by decide)))
    have hd := isqrt_dec (8 * L + 9) 3 (by decide) (Or.inl (by omega))
    have c3 : ((3 : Nat) : Int) = 3 := rfl
    rw [c3] at hd
    have e8 : (8 : Int) * (L : Int) + 9 = ((8 * L + 9 : Nat) : Int) := by omega
    have hsm : (Float64.isqrt (8 * L + 9) - 3) / 2 ≤ 8 * L + 9 := by
      have : Float64.isqrt (8 * L + 9) ≤ Float64.isqrt (8 * L + 9) * Float64.isqrt (8 * L + 9) := Nat.le_mul_self _
      omega
    refine q_asg (v := .int (((Float64.isqrt (8 * L + 9) - 3) / 2 : Nat) : Int)) ?_ fun H1 e1 => ?_
    · rw [Int.natCast_ediv, ← hd]
      refine ev_op (ev_op (ev_isqrt (n := 8 * L + 9) ?_ ?_) ev_c rv_I0) ev_c (rv_I (by unfold CDiv; decide))
      · rw [← e8]
        exact ev_op (ev_op ev_c (ev_var rfl) (rv_I (Or.inl (by decide)))) ev_c rv_I0
      · have : (8 * 2 ^ 101 + 9 : Nat) < 2 ^ 4000 := by decide +kernel
        omega
    generalize (Float64.isqrt (8 * L + 9) - 3) / 2 = b at hle hsm ⊢
    have hbig : (8 * 2 ^ 101 + 9 + 20 : Nat) < 2 ^ 1000 := by decide +kernel
    refine q_when (et_test (ev_op (ev_op (ev_var rfl) (ev_op (ev_var rfl) ev_c rv_I0) (rv_I (wmul (by omega) (by omega)))) (ev_op ev_c (ev_var rfl) (rv_I (Or.inl (by decide)))) rv_I0)) (fun hb H2 e2 => ?_) (fun hb H2 e2 => ?_)
    · have hlt : b * (b + 3) < 2 * L := by
        have := of_decide_eq_true hb
        have e : (b : Int) * ((b : Int) + 3) = ((b * (b + 3) : Nat) : Int) := by rw [Int.natCast_mul, Int.natCast_add]; rfl
        rw [e] at this
        omega
      rw [if_pos hlt] at hle
      rw [← hle] at q
      exact s_ret (ev_op (ev_var rfl) ev_c rv_I0) fun H3 e3 => q H3 ((e1.trans e2).trans e3)
    · have hlt : ¬ b * (b + 3) < 2 * L := by
        have := of_decide_eq_false hb
        have e : (b : Int) * ((b : Int) + 3) = ((b * (b + 3) : Nat) : Int) := by rw [Int.natCast_mul, Int.natCast_add]; rfl
        rw [e] at this
        omega
      rw [if_neg hlt] at hle
      rw [← hle] at q
      exact s_ret (ev_var rfl) fun H3 e3 => q H3 ((e1.trans e2).trans e3)
theorem sv_lec {L : Nat} {H : Hp} (hc : L ≤ cap) : SpV spLeC [.int (L : Int)] H (.int (grF 1 L : Nat)) := fun _ _ _ q _ => ⟨L, rfl, hc, q⟩
/-! ### count_bound -/
/-! ### _law_total -/
/-! ### _law_listed_total -/
end
end My

set_option Elab.async false
set_option linter.all false
set_option maxRecDepth 100000
set_option maxHeartbeats 4000000
namespace My
open PySem PySem.Spec PyProof.Rows L2 Evl
open SX (S S_len S_cat S_beq S_beq_eq S_inj S_tl)

/-! ### dicts with words as keys -/
theorem upd_Ne {H : Hp} {a b : Addr} {o u : HO} (h : H b = some u) (n : b ≠ a) : (upd H a o) b = some u := by rw [upd_ne n]; exact h
theorem take_snoc {α : Type} {l : List α} {i : Nat} {x : α} (h : l[i]? = some x) : l.take (i + 1) = l.take i ++ [x] := by
  obtain ⟨hi, e⟩ := List.getElem?_eq_some_iff.mp h
  rw [List.take_succ_eq_append_getElem hi, e]
abbrev ParOk (rows : List (Nat × Nat)) : Prop := ∀ (i : Nat) (r : Nat × Nat), rows[i]? = some r → r.1 ≤ i
theorem ParOk.take {rows : List (Nat × Nat)} (h : ParOk rows) (n : Nat) : ParOk (rows.take n) := fun i r hr => by
  have hi := (List.getElem?_eq_some_iff.mp hr).1
  rw [List.length_take] at hi
  rw [List.getElem?_take_of_lt (by omega)] at hr
  exact h i r hr
def idxW : Nat → List (List Nat) → List Nat → Option Nat
  | _, [], _ => none
  | n, p :: ps, w => if p = w then some n else idxW (n + 1) ps w
theorem idxW_some : ∀ {n : Nat} {ps : List (List Nat)} {w : List Nat} {k : Nat}, idxW n ps w = some k → n ≤ k ∧ ps[k - n]? = some w
  | n, [], w, k, h => by cases h
  | n, p :: ps, w, k, h => by
    unfold idxW at h
    by_cases e : p = w
    · rw [if_pos e] at h
      cases Option.some.inj h
      rw [Nat.sub_self]
      exact ⟨Nat.le_refl _, congrArg some e⟩
    · rw [if_neg e] at h
      obtain ⟨a, b⟩ := idxW_some h
      refine ⟨by omega, ?_⟩
      rw [show k - n = (k - (n + 1)) + 1 by omega]
      exact b
theorem idxW_none : ∀ {n : Nat} {ps : List (List Nat)} {w : List Nat}, idxW n ps w = none → w ∉ ps
  | n, [], w, h => List.not_mem_nil
  | n, p :: ps, w, h => by
    unfold idxW at h
    by_cases e : p = w
    · rw [if_pos e] at h; cases h
    · rw [if_neg e] at h
      intro hm
      rcases List.mem_cons.mp hm with rfl | hm
      · exact e rfl
      · exact idxW_none h hm
def wKV : Nat → List (List Nat) → List (Key × V)
  | _, [] => []
  | n, p :: ps => (Sum.inr (S p), .int (n : Int)) :: wKV (n + 1) ps
theorem inr_S {p w : List Nat} (h : (Sum.inr (S p) : Key) = Sum.inr (S w)) : p = w := S_inj (Sum.inr.inj h)
theorem wKV_at : ∀ (n : Nat) (ps : List (List Nat)) (w : List Nat), valV (wKV n ps) (Sum.inr (S w) : Key) = (idxW n ps w).map fun (k : Nat) => V.int (k : Int)
  | _, [], _ => rfl
  | n, p :: ps, w => by
    show valV (((Sum.inr (S p) : Key), V.int (n : Int)) :: wKV (n + 1) ps) (Sum.inr (S w)) = (idxW n (p :: ps) w).map fun (k : Nat) => V.int (k : Int)
    unfold idxW
    by_cases e : p = w
    · rw [if_pos e, valV_pos (by rw [e])]; rfl
    · rw [if_neg e, valV_neg (fun z => e (inr_S z)), wKV_at (n + 1) ps w]
theorem wKV_snoc : ∀ (n : Nat) (ps : List (List Nat)) (p : List Nat), wKV n (ps ++ [p]) = wKV n ps ++ [(Sum.inr (S p), .int ((n + ps.length : Nat) : Int))]
  | n, [], p => rfl
  | n, q :: ps, p => by
    show (Sum.inr (S q), _) :: wKV (n + 1) (ps ++ [p]) = _
    rw [wKV_snoc (n + 1) ps p, List.length_cons, show n + 1 + ps.length = n + (ps.length + 1) by omega]
    rfl
theorem wKV_len : ∀ (n : Nat) (ps : List (List Nat)), (wKV n ps).length = ps.length
  | _, [] => rfl
  | n, p :: ps => congrArg Nat.succ (wKV_len (n + 1) ps)
/-- a piece's text has its number -/
theorem idxW_piece {rows : List (Nat × Nat)} (nd : rows.Nodup) (hp : ParOk rows) {i : Nat} (hi : i ≤ rows.length) : idxW 0 (piF rows) ((piF rows).getD i []) = some i := by
  have hl := piF_len rows
  cases e : idxW 0 (piF rows) ((piF rows).getD i []) with
  | none =>
    have := idxW_none e
    rw [List.getD_eq_getElem?_getD, List.getElem?_eq_getElem (by omega)] at this
    exact absurd (List.getElem_mem (by omega)) this
  | some k =>
    obtain ⟨_, b⟩ := idxW_some e
    rw [Nat.sub_zero] at b
    have hk := (List.getElem?_eq_some_iff.mp b).1
    have hkd : (piF rows).getD k [] = (piF rows).getD i [] := by
      have h1 : (piF rows).getD k [] = ((piF rows)[k]?).getD [] := List.getD_eq_getElem?_getD
      rw [h1, b]
      rfl
    rw [piF_inj nd hp k i (by omega) hi hkd]
/-- a longer word is a piece where its row is there -/
theorem idxW_step {rows : List (Nat × Nat)} (nd : rows.Nodup) (hp : ParOk rows) {at_ c : Nat} (ha : at_ ≤ rows.length) : idxW 0 (piF rows) ((piF rows).getD at_ [] ++ [c]) = ixR 1 rows (at_, c) := by
  have hl := piF_len rows
  cases e : ixR 1 rows (at_, c) with
  | some k =>
    obtain ⟨a, b⟩ := ixR_some e
    have hk := (List.getElem?_eq_some_iff.mp b).1
    have hrow := piF_row hp b
    rw [show k - 1 + 1 = k by omega] at hrow
    have : (piF rows).getD k [] = (piF rows).getD at_ [] ++ [c] := hrow
    rw [← this]
    exact idxW_piece nd hp (by omega)
  | none =>
    have hn := ixR_none e
    cases e2 : idxW 0 (piF rows) ((piF rows).getD at_ [] ++ [c]) with
    | none => rfl
    | some k =>
      exfalso
      obtain ⟨_, b⟩ := idxW_some e2
      rw [Nat.sub_zero] at b
      have hk := (List.getElem?_eq_some_iff.mp b).1
      have hkd : (piF rows).getD k [] = (piF rows).getD at_ [] ++ [c] := by
        have h1 : (piF rows).getD k [] = ((piF rows)[k]?).getD [] := List.getD_eq_getElem?_getD
        rw [h1, b]
        rfl
      cases k with
      | zero =>
        rw [piF_zero] at hkd
        simp at hkd
      | succ k =>
        obtain ⟨r, hr⟩ : ∃ r, rows[k]? = some r := ⟨_, List.getElem?_eq_getElem (by omega)⟩
        have h1 := hp k r hr
        rw [piF_row hp hr] at hkd
        obtain ⟨e3, e4⟩ := List.append_inj' hkd rfl
        have e5 := piF_inj nd hp r.1 at_ (by omega) ha e3
        have e6 : r.2 = c := by simpa using e4
        exact hn (by rw [← e5, ← e6]; exact List.mem_of_getElem? hr)
section
variable {K : PySem.W.Frag} {σ : L2.St} {H : Hp} {ta tb te tv td ty : TE} {v : V} {D : Ends} {tu tz : TS}
def rTupOf (K : PySem.W.Frag) : List V → Hp → VK → Prop := fun xs H Q => ∃ p ys, xs = [.ref p] ∧ ((SqL K H p ys ∧ ∀ l, H l = none → Q (.ref l) (upd H l (.tup ys))) ∨ (SqT K H p ys ∧ Q (.ref p) H))
theorem eu_tupOf {p : Addr} {xs : List V} (h : Ev te σ H (.ref p)) (hS : SqL K H p xs) : EvU (tCB (rTupOf K) (tCons te tNil)) σ H xs := fun H1 e Q q => h H1 e _ fun H2 e2 =>
  ⟨p, xs, rfl, Or.inl ⟨ex_l (e.trans e2) hS, fun l hl => q l _ (fresh_back e2 hl) (e2.trans (Ex.new hl)) upd_same⟩⟩
/-- the same of a new list -/
theorem stepC_len (s : List (Nat × Nat) × Nat) (c : Nat) : (stepC s c).1.length ≤ s.1.length + 1 := by
  unfold stepC
  cases ixR 1 s.1 (s.2, c) with
  | some k => exact Nat.le_succ _
  | none => show (s.1 ++ [_]).length ≤ _; rw [List.length_append]; exact Nat.le_refl _
theorem cutC_len (text : List Nat) : (cutC text).1.length ≤ text.length := by
  induction text using snoc_ind with
  | h0 => exact Nat.le_refl _
  | hs l a ih =>
    have := stepC_len (cutC l) a
    rw [cutC_snoc, List.length_append]
    show _ ≤ l.length + 1
    omega
theorem ev_dinK {d : Addr} {kvs : List (Key × V)} {w : List Nat} (ha : Ev ta σ H (.str (S w))) (hb : Ev tb σ H (.ref d)) (hd : H d = some (.dK kvs)) : Ev (tDIn ta tb) σ H (.bl (valV kvs (Sum.inr (S w) : Key)).isSome) := fun H1 e Q q =>
  ha H1 e _ fun H2 e2 => hb H2 (e.trans e2) _ fun H3 e3 => ⟨d, _, rfl, DGet.k (k := Sum.inr (S w)) (((e.trans e2).trans e3) _ _ hd), q H3 (e2.trans e3)⟩
theorem ev_dgetK {d : Addr} {kvs : List (Key × V)} {w : List Nat} (ho : Ev td σ H (.ref d)) (hi : Ev ty σ H (.str (S w))) (hd : H d = some (.dK kvs)) (hv : valV kvs (Sum.inr (S w) : Key) = some v) : Ev (tDGet td ty) σ H v := fun H1 e Q q =>
  ho H1 e _ fun H2 e2 => hi H2 (e.trans e2) _ fun H3 e3 => ⟨d, v, rfl, by rw [← hv]; exact DGet.k (k := Sum.inr (S w)) (((e.trans e2).trans e3) _ _ hd), q H3 (e2.trans e3)⟩
theorem q_dputK {d : Addr} {kvs : List (Key × V)} {w : List Nat} (hv : Ev tv σ H v) (ho : Ev td σ H (.ref d)) (hi : Ev ty σ H (.str (S w))) (hd : H d = some (.dK kvs)) (hl : kvs.length < sizeLine) (kk : ∀ H1, Ex H H1 → tz D σ (upd H1 d (.dK (putK kvs (Sum.inr (S w)) v)))) : tSeq (sDPut td ty tv) tz D σ H :=
  hv H (Ex.refl H) _ fun H1 e1 => ho H1 e1 _ fun H2 e2 => hi H2 (e1.trans e2) _ fun H3 e3 => ⟨d, _, rfl, DPut.k (k := Sum.inr (S w)) (((e1.trans e2).trans e3) _ _ hd) hl, kk H3 ((e1.trans e2).trans e3)⟩
theorem en_disp0 : EvN (tDisp [(tC (.str (S [])), tC (.int 0))]) σ H (.dK (wKV 0 [[]])) := fun H1 e Q q p hp => by
  refine ⟨upd_same, [(Sum.inr (S []), .int 0)], rfl, by decide, ?_⟩
  exact q p _ hp (fun b o hb => by
    have n : b ≠ p := fun z => by rw [z, hp] at hb; cases hb
    exact upd_Ne (upd_Ne hb n) n) upd_same
theorem s_retUVV {xs : List V} {u : V} (h : EvU te σ H xs) (ha : Ev ta σ H v) (hb : Ev tb σ H u) (k : ∀ kk p H2, H kk = none → H p = none → Ex H H2 → H2 kk = some (.tup xs) → H2 p = some (.lst [.ref kk, v, u]) → D.rt (.ref p) H2) : tRet (tLst (tCons te (tCons ta (tCons tb tNil)))) D σ H :=
  h H (Ex.refl H) _ fun kk H1 nk e1 hk => ha H1 e1 _ fun H2 e2 => hb H2 (e1.trans e2) _ fun H3 e3 => ⟨sz_of (n := 3) (by decide), fun p hp => by
    have e13 := e2.trans e3
    have np : H p = none := fresh_back (e1.trans e13) hp
    refine k kk p _ nk np ((e1.trans e13).trans (Ex.new hp)) ?_ upd_same
    have n : kk ≠ p := fun z => by rw [← z, e13 _ _ hk] at hp; cases hp
    exact upd_Ne (e13 _ _ hk) n⟩
end
section
variable {P : Program} {w : World} {K : PySem.W.Frag} {mg : Str → Option Value} {base : Heap}

variable {CG CC : Addr}
abbrev s_law_cut : Stmt := top 26
abbrev N_law_cut : List Str := ["text", "pieces", "number", "rows", "word", "letter"]
theorem sc_law_cut : FnScope N_law_cut ["text"] (defScope s_law_cut) := ⟨rfl, rfl, rfl, by decide +kernel, rfl, by decide +kernel, by decide +kernel⟩
def spLC : Sp := fun vs H Q _ => ∃ text : List Nat, vs = [.str (S text)] ∧ text.length ≤ 4000 ∧ ∀ (p k pl : Addr) (rs : List Addr) (H' : Hp), H p = none → Ex H H' → H' p = some (.lst [.ref k, .int ((cutC text).2 : Int), .ref pl]) → H' k = some (.tup (rV rs)) → RowsAt H' rs (cutC text).1 → H' pl = some (.lst (sV (piF (cutC text).1))) → Q (.ref p) H'
theorem ok_law_cut (T : TC K mg CG CC) (F : At K mg "_law_cut" s_law_cut) : Dn P w K mg base 1 "_law_cut" s_law_cut ["text"] spLC := by
  refine dn_ok F sc_law_cut (fun _ _ _ _ _ _ us hl => match us, hl with | [_], _ => rfl) (fun vs H Q E h => ?_) (fun f cdv A outer t H vs Q E hr h => ?_)
  · obtain ⟨text, rfl, _⟩ := h; rfl
  · obtain ⟨text, rfl, hlen, q⟩ := h
    refine ⟨_, (pss_cons (ps_set (i := 1) sc_law_cut.nd rfl (Or.inl rfl) (pe_lst (pa_cons pe_str pa_nil)))
      (pss_cons (ps_set (i := 2) sc_law_cut.nd rfl (Or.inl rfl) (pe_disp (pps_cons pe_str pe_int pps_nil) (by rfl) (by rfl) (by simp) (by decide)))
      (pss_cons (ps_set (i := 3) sc_law_cut.nd rfl (Or.inl rfl) (pe_lst pa_nil))
      (pss_cons (ps_set (i := 4) sc_law_cut.nd rfl (Or.inl rfl) pe_str)
      (pss_cons (ps_for PassesOwn.never rfl (pi_str (pv 0)) (pg_name (i := 5) sc_law_cut.nd rfl (Or.inl rfl))
        (pss_one (ps_if (pt_cmp (pc_din (hu_of hr) (pe_op op_add_str (pv 4) (pv 5)) (pv 2))) (pss_one (ps_set (i := 4) sc_law_cut.nd rfl (Or.inl rfl) (pe_op op_add_str (pv 4) (pv 5)))) (pss_cons (ps_expr (pe_bm PySem.F.plainAttrs_list PySem.F.slot_list_append PySem.F.type_list_append mt_append (pv 3) (pa_cons (pe_tup (pa_cons (pe_dget (hu_of hr) (pv 2) (pv 4) (fun _ _ => rfl)) (pa_cons (pv 5) pa_nil))) pa_nil)))
            (pss_cons (ps_dput (hu_of hr) (pv 2) (pe_op op_add_str (pv 4) (pv 5)) (pe_callB call_len_seq (by rfl) T.len boot_len (pa_cons (pv 1) pa_nil)) rfl)
            (pss_cons (ps_expr (pe_bm PySem.F.plainAttrs_list PySem.F.slot_list_append PySem.F.type_list_append mt_append (pv 1) (pa_cons (pe_op op_add_str (pv 4) (pv 5)) pa_nil)))
            (pss_one (ps_set (i := 4) sc_law_cut.nd rfl (Or.inl rfl) pe_str))))))))
      (pss_one (ps_ret (pe_lst (pa_cons (pe_callTy call_tuple_of (by rfl) T.tuple_ (by decide +kernel) (pa_cons (pv 3) pa_nil)) (pa_cons (pe_dget (hu_of hr) (pv 2) (pv 4) (fun _ _ => rfl)) (pa_cons (pv 1) pa_nil))))))))))), ?_⟩
    refine q_asgL (xs := sV (piF [])) (el_lst (ea_cons ev_c ea_nil) (by show 1 ≤ 100000; decide)) fun pl H1 npl e1 hpl => ?_
    refine q_asgN en_disp0 fun d H2 nd e2 hd => ?_
    refine q_asgL (el_lst ea_nil (by decide)) fun rl H3 nrl e3 hrl => ?_
    refine q_asg (v := .str (S [])) (ev_is ev_c rfl) fun H4 e4 => ?_
    have e14 := ((e1.trans e2).trans e3).trans e4
    have npd : pl ≠ d := fun z => by rw [← z, hpl] at nd; cases nd
    have npr : pl ≠ rl := fun z => by rw [← z, e2 _ _ hpl] at nrl; cases nrl
    have ndr : d ≠ rl := fun z => by rw [← z, hd] at nrl; cases nrl
    have nd0 : H d = none := fresh_back e1 nd
    have nrl0 : H rl = none := fresh_back (e1.trans e2) nrl
    refine q_forS (ev_var rfl) (fun i σ' H' => ∃ (rs : List Addr) (x : Option V), σ' = [some (.str (S text)), some (.ref pl), some (.ref d), some (.ref rl), some (.str (S ((piF (cutC (text.take i)).1).getD (cutC (text.take i)).2 []))), x] ∧ Ex H H' ∧ H' pl = some (.lst (sV (piF (cutC (text.take i)).1))) ∧ H' d = some (.dK (wKV 0 (piF (cutC (text.take i)).1))) ∧ H' rl = some (.lst (rV rs)) ∧ RowsAt H' rs (cutC (text.take i)).1)
      (fun H5 e5 => ⟨[], none, rfl, e14.trans e5, e5 _ _ (e4 _ _ (e3 _ _ (e2 _ _ hpl))), e5 _ _ (e4 _ _ (e3 _ _ hd)), e5 _ _ (e4 _ _ hrl), trivial⟩) ?_ ?_
    · rintro i c σ' H' hc ⟨rs, x, rfl, e, h1, h2, h3, R⟩
      rw [S_get] at hc
      have hi := (List.getElem?_eq_some_iff.mp hc).1
      have htk := take_snoc hc
      have hst : cutC (text.take (i + 1)) = stepC (cutC (text.take i)) c := by rw [htk, cutC_snoc]
      have C := cutOk (text.take i)
      have hcl := cutC_len (text.take i)
      rw [List.length_take] at hcl
      rw [hst]
      generalize cutC (text.take i) = cc at C hcl h1 h2 h3 R ⊢
      obtain ⟨rows, at_⟩ := cc
      show tIfS _ _ _ _ [some (V.str (S text)), some (V.ref pl), some (V.ref d), some (V.ref rl), some (V.str (S ((piF rows).getD at_ []))), some (V.str (S [c]))] H'
      have hat : at_ ≤ rows.length := C.at_le
      have hsh : ((piF rows).getD at_ []).length ≤ at_ := piF_short C.par at_ hat
      have hlen5 : rows.length ≤ 4000 := by have : rows.length ≤ min i text.length := hcl; omega
      have hpl1 := piF_len rows
      have hidx := idxW_step C.nd C.par (c := c) hat
      have hself := idxW_piece C.nd C.par hat
      have hw : ∀ {H5 : Hp}, Ev (tOp rAddS (tVar 4) (tVar 5)) [some (V.str (S text)), some (V.ref pl), some (V.ref d), some (V.ref rl), some (V.str (S ((piF rows).getD at_ []))), some (V.str (S [c]))] H5 (.str (S ((piF rows).getD at_ [] ++ [c]))) := ev_op (ev_var rfl) (ev_var rfl) (rv_addS (by show _ + 1 ≤ 1000000; omega))
      refine s_if (et_B (ev_dinK hw (ev_var rfl) h2)) (fun hb H5 e5 => ?_) (fun hb H5 e5 => ?_)
      · rw [wKV_at, hidx] at hb
        cases hk : ixR 1 rows (at_, c) with
        | none => rw [hk] at hb; cases hb
        | some k =>
          have hs : stepC (rows, at_) c = (rows, k) := by unfold stepC; simp only [hk]
          obtain ⟨a, b⟩ := ixR_some hk
          have hrow := piF_row C.par b
          rw [show k - 1 + 1 = k by omega] at hrow
          have hrow' : (piF rows).getD k [] = (piF rows).getD at_ [] ++ [c] := hrow
          refine s_asg hw fun H6 e6 => ⟨rs, some (V.str (S [c])), ?_, e.trans (e5.trans e6), ?_, ?_, (e5.trans e6) _ _ h3, ?_⟩
          · rw [hs, hrow']; rfl
          · rw [hs]; exact (e5.trans e6) _ _ h1
          · rw [hs]; exact (e5.trans e6) _ _ h2
          · rw [hs]; exact R.ex (e5.trans e6)
      · rw [wKV_at, hidx] at hb
        have hk : ixR 1 rows (at_, c) = none := by
          cases z : ixR 1 rows (at_, c) with
          | none => rfl
          | some k => rw [z] at hb; cases hb
        have hs : stepC (rows, at_) c = (rows ++ [(at_, c)], 0) := by unfold stepC; simp only [hk]
        have h2' := e5 _ _ h2
        refine q_appU (ys := rowV (at_, c)) (e5 _ _ h3) (ev_var rfl) (eu_tup (ea_cons (ev_dgetK (ev_var rfl) (ev_var rfl) h2' (by rw [wKV_at, hself]; rfl)) (ea_cons (ev_var rfl) ea_nil)) (by show 2 ≤ 100000; decide)) (by rw [List.length_map, R.len]; omega) fun r H6 nr e6 hr6 => ?_
        have nrr : r ≠ rl := fun z => by rw [z, e5 _ _ h3] at nr; cases nr
        have nrd : r ≠ d := fun z => by rw [z, h2'] at nr; cases nr
        have nrp : r ≠ pl := fun z => by rw [z, e5 _ _ h1] at nr; cases nr
        have e56 := e5.trans e6
        have g1 : (upd H6 rl (.lst (rV rs ++ [.ref r]))) pl = some (.lst (sV (piF rows))) := upd_Ne (e56 _ _ h1) npr
        have g2 : (upd H6 rl (.lst (rV rs ++ [.ref r]))) d = some (.dK (wKV 0 (piF rows))) := upd_Ne (e56 _ _ h2) ndr
        have g3 : (upd H6 rl (.lst (rV rs ++ [.ref r]))) rl = some (.lst (rV (rs ++ [r]))) := by rw [upd_same]; simp [rV]
        have hnrl : ∀ {H7 : Hp} {xs : List V}, H7 rl = some (.lst xs) → ∀ ys, H7 rl ≠ some (.tup ys) := fun h ys z => by rw [h] at z; cases Option.some.inj z
        have g4 : RowsAt (upd H6 rl (.lst (rV rs ++ [.ref r]))) (rs ++ [r]) (rows ++ [(at_, c)]) := by
          refine RowsAt.snoc (upd_Ne hr6 nrr) ?_
          exact (R.ex e56).but (p := rl) (l := rl) (d := rl) (fun b o hb h1 _ _ => upd_Ne hb h1) (hnrl (e56 _ _ h3)) (hnrl (e56 _ _ h3)) (hnrl (e56 _ _ h3))
        have g5 : Ex H (upd H6 rl (.lst (rV rs ++ [.ref r]))) := Ex.mut (e.trans e56) nrl0
        generalize upd H6 rl (.lst (rV rs ++ [.ref r])) = H7 at g1 g2 g3 g4 g5 ⊢
        have elen : ((sV (piF rows)).length : Int) = ((0 + (piF rows).length : Nat) : Int) := by rw [List.length_map, Nat.zero_add]
        refine q_dputK (ev_is (ev_len (K := K) (ev_var rfl) (sq_of g1)) (congrArg V.int elen)) (ev_var rfl) hw g2 (by rw [wKV_len]; show _ < 16777216; omega) fun H8 e8 => ?_
        have hnone : valV (wKV 0 (piF rows)) (Sum.inr (S ((piF rows).getD at_ [] ++ [c])) : Key) = none := by rw [wKV_at, hidx, hk]; rfl
        rw [putK_new _ hnone, ← wKV_snoc]
        have hps : piF (rows ++ [(at_, c)]) = piF rows ++ [(piF rows).getD at_ [] ++ [c]] := piF_snoc rows (at_, c)
        rw [← hps]
        have k1 : (upd H8 d (.dK (wKV 0 (piF (rows ++ [(at_, c)]))))) pl = some (.lst (sV (piF rows))) := upd_Ne (e8 _ _ g1) npd
        have k2 : (upd H8 d (.dK (wKV 0 (piF (rows ++ [(at_, c)]))))) d = some (.dK (wKV 0 (piF (rows ++ [(at_, c)])))) := upd_same
        have k3 : (upd H8 d (.dK (wKV 0 (piF (rows ++ [(at_, c)]))))) rl = some (.lst (rV (rs ++ [r]))) := upd_Ne (e8 _ _ g3) ndr.symm
        have hnd : ∀ ys, H8 d ≠ some (.tup ys) := fun ys z => by rw [e8 _ _ g2] at z; cases Option.some.inj z
        have k4 : RowsAt (upd H8 d (.dK (wKV 0 (piF (rows ++ [(at_, c)]))))) (rs ++ [r]) (rows ++ [(at_, c)]) := (g4.ex e8).but (p := d) (l := d) (d := d) (fun b o hb h1 _ _ => upd_Ne hb h1) hnd hnd hnd
        have k5 : Ex H (upd H8 d (.dK (wKV 0 (piF (rows ++ [(at_, c)]))))) := Ex.mut (g5.trans e8) nd0
        generalize upd H8 d (.dK (wKV 0 (piF (rows ++ [(at_, c)])))) = H9 at k1 k2 k3 k4 k5 ⊢
        refine q_app k1 (ev_var rfl) hw (by rw [List.length_map]; omega) fun H10 e10 => ?_
        have m1 : (upd H10 pl (.lst (sV (piF rows) ++ [.str (S ((piF rows).getD at_ [] ++ [c]))]))) pl = some (.lst (sV (piF (rows ++ [(at_, c)])))) := by rw [upd_same, hps]; simp [sV]
        have m2 : (upd H10 pl (.lst (sV (piF rows) ++ [.str (S ((piF rows).getD at_ [] ++ [c]))]))) d = some (.dK (wKV 0 (piF (rows ++ [(at_, c)])))) := upd_Ne (e10 _ _ k2) npd.symm
        have m3 : (upd H10 pl (.lst (sV (piF rows) ++ [.str (S ((piF rows).getD at_ [] ++ [c]))]))) rl = some (.lst (rV (rs ++ [r]))) := upd_Ne (e10 _ _ k3) npr.symm
        have hnp : ∀ ys, H10 pl ≠ some (.tup ys) := fun ys z => by rw [e10 _ _ k1] at z; cases Option.some.inj z
        have m4 : RowsAt (upd H10 pl (.lst (sV (piF rows) ++ [.str (S ((piF rows).getD at_ [] ++ [c]))]))) (rs ++ [r]) (rows ++ [(at_, c)]) := (k4.ex e10).but (p := pl) (l := pl) (d := pl) (fun b o hb h1 _ _ => upd_Ne hb h1) hnp hnp hnp
        have m5 : Ex H (upd H10 pl (.lst (sV (piF rows) ++ [.str (S ((piF rows).getD at_ [] ++ [c]))]))) := Ex.mut (k5.trans e10) npl
        generalize upd H10 pl (.lst (sV (piF rows) ++ [.str (S ((piF rows).getD at_ [] ++ [c]))])) = H11 at m1 m2 m3 m4 m5 ⊢
        refine s_asg (v := .str (S [])) (ev_is ev_c rfl) fun H12 e12 => ⟨rs ++ [r], some (V.str (S [c])), ?_, m5.trans e12, ?_, ?_, e12 _ _ m3, ?_⟩
        · rw [hs]
          show _ = [some (V.str (S text)), some (V.ref pl), some (V.ref d), some (V.ref rl), some (V.str (S ((piF (rows ++ [(at_, c)])).getD 0 []))), some (V.str (S [c]))]
          rw [piF_zero]
          rfl
        · rw [hs]; exact e12 _ _ m1
        · rw [hs]; exact e12 _ _ m2
        · rw [hs]; exact m4.ex e12
    · rintro σ' H' ⟨rs, x, rfl, e, h1, h2, h3, R⟩
      rw [S_size, List.take_length] at h1 h2 R
      rw [S_size, List.take_length]
      have C := cutOk text
      have hself := idxW_piece C.nd C.par C.at_le
      exact s_retUVV (eu_tupOf (ev_var rfl) (sq_of h3)) (ev_dgetK (ev_var rfl) (ev_var rfl) h2 (by rw [wKV_at, hself]; rfl)) (ev_var rfl) fun kk p H2 nk np e2 hk hp => q p kk pl rs H2 (fresh_back e np) (e.trans e2) hp hk (R.ex e2) (e2 _ _ h1)
end
end My

set_option Elab.async false
set_option linter.all false
set_option maxRecDepth 100000
set_option maxHeartbeats 4000000
namespace My
open PySem PySem.Spec PyProof.Rows L2 Evl
open SX (S S_len S_cat S_beq S_beq_eq S_inj S_tl)
section
variable {K : PySem.W.Frag} {σ : L2.St} {H : Hp} {ta tb te tk : TE} {D : Ends} {tz : TS}
theorem ev_on {l : List Nat} {k : Nat} (h0 : Ev ta σ H (.str (S l))) (hk : Ev tk σ H (.int (k : Int))) (h1 : 1 ≤ l.length) (h6 : l.length ≤ 6) (hz : k ≤ 100000) : Ev (tOp rRepS (tOp rIxS ta (tC (.int 0))) tk) σ H (.str (S (onF l k))) := by
  have h := ev_op (r := rRepS) (ev_op (r := rIxS) h0 (ev_c (v := .int 0)) (rv_ixSS (c := hdF l) (by omega) (by
    have : atI l ((0 : Nat) : Int) = some (hdF l) := atI_nat (by unfold hdF; rw [List.getD_eq_getElem?_getD, List.getElem?_eq_getElem h1]; rfl)
    exact this))) hk (rv_repS (by omega) (by omega) (by
      show 1 * _ ≤ _
      rw [Int.toNat_natCast]
      omega))
  rw [Int.toNat_natCast, List.flatten_replicate_singleton] at h
  exact h
/-- x += y - len(xs.pop()) -/
theorem s_augPop {i j : Nat} {p : Addr} {ws : List (List Nat)} {w : List Nat} {a b : Int} {v : Nat} (hx : σ[i]? = some (some (.int a))) (hy : σ[j]? = some (some (.int b))) (hv : σ[v]? = some (some (.ref p))) (hp : H p = some (.lst (sV (ws ++ [w])))) (hw : w.length ≤ 100000)
    (k : D.nx (σ.set i (some (.int (a + (b - (w.length : Int)))))) (upd H p (.lst (sV ws)))) :
    tAug i (tOp (rI0 fun i j => .int (i - j)) (tVar j) (tCB (fun xs H Q => ∃ z : Str, xs = [.str z] ∧ z.length ≤ sizeLine ∧ Q (.int z.length) H) (tCons (tBM0 K "list" rPop (tVar v)) tNil))) (rI0 fun i j => .int (i + j)) D σ H := by
  have e1 : sV (ws ++ [w]) = sV ws ++ [.str (S w)] := by unfold sV; rw [List.map_append]; rfl
  refine ⟨.int a, hx, ?_⟩
  refine ⟨.int b, hy, ?_⟩
  refine ⟨.ref p, hv, ⟨Or.inl ⟨rfl, _, sq_of hp⟩, p, sV (ws ++ [w]), .str (S w), rfl, rfl, hp, ?_, ?_⟩⟩
  · rw [e1, List.length_append, List.length_singleton, Nat.add_sub_cancel, List.getElem?_append_right (Nat.le_refl _), Nat.sub_self]
    rfl
  · rw [e1, List.dropLast_concat]
    refine ⟨S w, rfl, by rw [S_len]; have : sizeLine = 16777216 := rfl; omega, ⟨b, _, rfl, rfl, ⟨a, _, rfl, rfl, ?_⟩⟩⟩
    rw [S_len]
    exact k
end
theorem given_ot (l : List Nat) : ∀ n, given n (fun i => isO l (wdF l (i + 1))) (fun i => V.str (S (wdF l (i + 1)))) = sV (otF l n)
  | 0 => rfl
  | n + 1 => by
    rw [ot_succ]
    cases e : isO l (wdF l (n + 1)) with
    | true =>
      rw [given_yes (f := fun i => isO l (wdF l (i + 1))) e, given_ot l n]
      unfold sV
      rw [if_pos rfl, List.map_append]
      rfl
    | false =>
      rw [given_no (f := fun i => isO l (wdF l (i + 1))) e, given_ot l n]
      rw [if_neg (by decide), List.append_nil]
noncomputable def twV (l : List Nat) (far many : Nat) : V := if grF 1 far ≤ many ∧ many ≤ grF l.length far then .str (S (twF l far many)) else .non
section
variable {P : Program} {w : World} {K : PySem.W.Frag} {mg : Str → Option Value} {base : Heap}
variable {CG CC CB CP CL CI CK CW CT CO : Addr}
abbrev s_text_with : Stmt := top 20
abbrev N_text_with : List Str := ["alphabet", "length", "count", "texts", "others", "longest", "total", "ones", "text", "letters"]
theorem sc_text_with : FnScope N_text_with ["alphabet", "length", "count"] (defScope s_text_with) := ⟨rfl, rfl, rfl, by decide +kernel, rfl, by decide +kernel, by decide +kernel⟩
def spTw : Sp := fun vs H Q _ => ∃ (l : List Nat) (far many : Nat), vs = [.str (S l), .int (far : Int), .int (many : Int)] ∧ AbcOk l ∧ far ≤ 400 ∧ RetV (twV l far many) H Q
theorem sv_tw {l : List Nat} {far many : Nat} {H : Hp} (hA : AbcOk l) (hf : far ≤ 400) : SpV spTw [.str (S l), .int (far : Int), .int (many : Int)] H (twV l far many) := fun _ _ _ q _ => ⟨l, far, many, rfl, hA, hf, q⟩
theorem AbcOk.nd8 {l : List Nat} (h : AbcOk l) : l.Nodup := List.Pairwise.imp (fun hab => Nat.ne_of_lt hab) h.2.2.2
theorem ok_text_with (D_check_alphabet : Dn P w K mg base 2 "check_alphabet" s_check_alphabet ["alphabet"] spChA) (D_first_texts : Dn P w K mg base 1 "first_texts" s_first_texts ["alphabet", "many"] spFi) (D_greatest_count : Dn P w K mg base 1 "greatest_count" s_greatest_count ["size", "length"] spGC) (D_least_count : Dn P w K mg base 1 "least_count" s_least_count ["length"] spLeC) (D_shortest_total : Dn P w K mg base 1 "shortest_total" s_shortest_total ["size", "count"] spST) (T : TT mg) (F : At K mg "text_with" s_text_with) : Dn P w K mg base 3 "text_with" s_text_with ["alphabet", "length", "count"] spTw := by
  refine dn_ok F sc_text_with (fun _ _ _ _ _ _ us hl => match us, hl with | [_, _, _], _ => rfl) (fun vs H Q E h => ?_) (fun f cdv A outer t H vs Q E hr h => ?_)
  · obtain ⟨l, far, many, rfl, _⟩ := h; rfl
  · obtain ⟨l, far, many, rfl, hA, hf, q⟩ := h
    refine ⟨_, (pss_cons (ps_expr (pe_dn D_check_alphabet hr (by decide) rfl (pa_cons (pv 0) pa_nil)))
      (pss_cons (ps_if (pt_not (pt_chain op_le op_le (pe_dn D_least_count hr (by decide) rfl (pa_cons (pv 1) pa_nil)) (pv 2) (pe_dn D_greatest_count hr (by decide) rfl (pa_cons (pe_callB call_len_str (by rfl) T.len boot_len (pa_cons (pv 0) pa_nil)) (pa_cons (pv 1) pa_nil))))) (pss_one (ps_ret pe_non)) pss_nil)
      (pss_cons (ps_set (i := 3) sc_text_with.nd rfl (Or.inl rfl) (pe_dn D_first_texts hr (by decide) rfl (pa_cons (pv 0) (pa_cons (pv 2) pa_nil))))
      (pss_cons (ps_setLc (i := 4) (own := [("text", 8)]) (g := gName 8) rfl sc_text_with.nd rfl rfl (sw_true rfl rfl rfl (by decide +kernel)) (pi_list (pv 3)) (blkOk_by (own := [("text", 8)]) (N := N_text_with) (sc := defScope s_text_with) (by decide +kernel)) (fun _ _ _ _ _ => pg_name (i := 8) sc_text_with.nd rfl (Or.inl rfl)) (fun _ _ _ _ _ => (pts_one (pt_cmpR op_ne (pv 8) (pe_op op_repS (pe_ix ix_str (pv 0) pe_int (fun _ _ => rfl)) (pe_callB call_len_str (by rfl) T.len boot_len (pa_cons (pv 8) pa_nil))) (nomark _)))) (fun _ _ _ _ _ => (pv 8)))
      (pss_cons (ps_set (i := 5) sc_text_with.nd rfl (Or.inl rfl) (pe_op op_sub (pv 2) (pe_callB call_len_seq (by rfl) T.len boot_len (pa_cons (pv 4) pa_nil))))
      (pss_cons (ps_set (i := 6) sc_text_with.nd rfl (Or.inl rfl) (pe_dn D_shortest_total hr (by decide) rfl (pa_cons (pe_callB call_len_str (by rfl) T.len boot_len (pa_cons (pv 0) pa_nil)) (pa_cons (pv 2) pa_nil))))
      (pss_cons (ps_while PassesOwn.never (pt_cmpR op_lt (pe_op op_add (pv 6) (pv 5)) (pv 1) (nomark _))
        (pss_cons (ps_aug (i := 5) sc_text_with.nd rfl (Or.inl rfl) pe_int (pip_of iop_add))
          (pss_one (ps_aug (i := 6) sc_text_with.nd rfl (Or.inl rfl) (pe_op op_sub (pv 5) (pe_callB call_len_str (by rfl) T.len boot_len (pa_cons (pe_bm0 PySem.F.plainAttrs_list PySem.F.slot_list_pop PySem.F.type_list_pop mt_pop (pv 4)) pa_nil))) (pip_of iop_add)))))
      (pss_cons (ps_setLc (i := 7) (te := tOp rRepS (tOp rIxS (tVar 0) (tC (.int 0))) (tVar 9)) (own := [("letters", 9)]) (g := gName 9) (tt := tYes) rfl sc_text_with.nd rfl rfl (sw_true rfl rfl rfl (by decide +kernel)) (pi_range2 (by rfl) T.range (pa_cons pe_int (pa_cons (pe_op op_add (pv 5) pe_int) pa_nil))) (blkOk_by (own := [("letters", 9)]) (N := N_text_with) (sc := defScope s_text_with) (by decide +kernel)) (fun _ _ _ _ _ => pg_name (i := 9) sc_text_with.nd rfl (Or.inl rfl)) (fun _ _ _ _ _ => pts_nil) (fun _ _ _ _ _ => (pe_op op_repS (pe_ix ix_str (pv 0) pe_int (fun _ _ => rfl)) (pv 9))))
      (pss_one (ps_ret (pe_op op_add_str (pe_op op_add_str (pe_join pe_str (pv 7)) (pe_join pe_str (pv 4))) (pe_op op_repS (pe_ix ix_str (pv 0) pe_int (fun _ _ => rfl)) (pe_op op_sub (pv 1) (pv 6)))))))))))))), ?_⟩
    have h1 := hA.1
    have h6 := hA.2.1
    have nd := hA.nd8
    have hcap : far ≤ cap := Nat.le_trans hf (by decide +kernel)
    refine q_drop (ev_call (ea_cons (ev_var rfl) ea_nil) (sv_chA hA)) fun H1 e1 => ?_
    refine q_when (b := !(decide (((grF 1 far : Nat) : Int) ≤ (many : Int)) && decide ((many : Int) ≤ ((grF l.length far : Nat) : Int)))) (et_not (et_chain (ev_call (ea_cons (ev_var rfl) ea_nil) (sv_lec hcap)) (ev_var rfl) (ev_call (ea_cons (ev_lenSS (ev_var rfl) (by omega)) (ea_cons (ev_var rfl) ea_nil)) (sv_gc h1 h6 hcap)) rv_I0 rv_I0)) (fun hb H2 e2 => ?_) (fun hb H2 e2 => ?_)
    · have hno : ¬ (grF 1 far ≤ many ∧ many ≤ grF l.length far) := by
        rintro ⟨a, b⟩
        rw [decide_eq_true (by omega), decide_eq_true (by omega)] at hb
        exact absurd hb (by decide)
      unfold twV at q
      rw [if_neg hno] at q
      exact s_ret ev_c fun H3 e3 => q H3 ((e1.trans e2).trans e3)
    · have hyes : grF 1 far ≤ many ∧ many ≤ grF l.length far := by
        have hb2 : (decide (((grF 1 far : Nat) : Int) ≤ (many : Int)) && decide ((many : Int) ≤ ((grF l.length far : Nat) : Int))) = true := by
          cases z : (decide (((grF 1 far : Nat) : Int) ≤ (many : Int)) && decide ((many : Int) ≤ ((grF l.length far : Nat) : Int))) with
          | true => rfl
          | false => rw [z] at hb; exact absurd hb (by decide)
        obtain ⟨a, b⟩ := Bool.and_eq_true_iff.mp hb2
        have := of_decide_eq_true a
        have := of_decide_eq_true b
        omega
      unfold twV at q
      rw [if_pos hyes] at q
      obtain ⟨hy1, hy2⟩ := hyes
      have hgl : grF l.length far ≤ far := grF_le h1
      have hm : many ≤ 400 := by omega
      have hle : 2 * far ≤ many * (many + 3) := Nat.le_trans (gr_le (grF_spec (Nat.le_refl 1))).1 (le_mono hy1)
      have h0far : tlF l many ≤ far := by
        have := tl_gr h1 far
        exact Nat.le_trans (tl_mono l hy2) this.1
      have hot := ot_le l many
      have hlg : ((many : Int) - ((otF l many).length : Int)) = ((lgF l many + 0 : Nat) : Int) := by unfold lgF; omega
      refine q_asgL (xs := sV (tsF l many)) (el_call (ea_cons (ev_var rfl) (ea_cons (ev_var rfl) ea_nil)) (fun H3 e3 Q3 q3 _ => ⟨l, many, rfl, h1, h6, by omega, q3⟩)) fun pt H3 npt e3 hpt => ?_
      refine q_asgL (xs := sV (otF l many)) ?_ fun po H4 npo e4 hpo => ?_
      · have hlen : (sV (tsF l many)).length = many := by show (List.map _ _).length = _; rw [List.length_map, ts_len]
        have := el_lcL (K := K) (σ := [some (.str (S l)), some (.int (far : Int)), some (.int (many : Int)), some (.ref pt), none, none, none, none, none, none]) (H := H3) (vs := [8]) (j := 8) (te := tVar 8) (tl := tVar 3) (t := tTest (tOp rNe (tVar 8) (tOp rRepS (tOp rIxS (tVar 0) (tC (.int 0))) (tCB (fun xs H Q => ∃ z : Str, xs = [.str z] ∧ z.length ≤ sizeLine ∧ Q (.int z.length) H) (tCons (tVar 8) tNil))))) (fun i => isO l (wdF l (i + 1))) (fun i => V.str (S (wdF l (i + 1)))) (ev_var rfl) (sq_of hpt) (by rw [hlen]; omega) (fun _ => rfl) (fun i x H4 e4 hi => ?_) (fun i x H4 e4 hi _ => ?_)
        · rw [hlen, given_ot] at this
          exact this
        · have hin : i < many := by have := (List.getElem?_eq_some_iff.mp hi).1; rw [hlen] at this; exact this
          obtain rfl : x = .str (S (wdF l (i + 1))) := by
            have h2 : (List.map (fun s => V.str (S s)) ((List.range many).map fun i => wdF l (i + 1)))[i]? = some x := hi
            rw [List.getElem?_map, List.getElem?_map, List.getElem?_range hin] at h2
            exact (Option.some.inj h2).symm
          have hwl := wdl7 l (i + 1)
          refine et_is (et_test (ev_op (ev_var rfl) (ev_on (ev_var rfl) (ev_lenSS (ev_var rfl) (by omega)) h1 h6 (by omega)) (rv_ne rfl))) ?_
          unfold isO
          by_cases z : wdF l (i + 1) = onF l (wdF l (i + 1)).length
          · rw [← z]
            rw [decide_eq_true rfl, decide_eq_false (fun c => c rfl)]
            rfl
          · rw [decide_eq_false (fun c => z (S_inj (V.str.inj c))), decide_eq_true z]
            rfl
        · have hin : i < many := by have := (List.getElem?_eq_some_iff.mp hi).1; rw [hlen] at this; exact this
          obtain rfl : x = .str (S (wdF l (i + 1))) := by
            have h2 : (List.map (fun s => V.str (S s)) ((List.range many).map fun i => wdF l (i + 1)))[i]? = some x := hi
            rw [List.getElem?_map, List.getElem?_map, List.getElem?_range hin] at h2
            exact (Option.some.inj h2).symm
          exact ev_var rfl
      have e04 := ((e1.trans e2).trans e3).trans e4
      have npo0 : H po = none := fresh_back ((e1.trans e2).trans e3) npo
      have holen : (sV (otF l many)).length = (otF l many).length := by show (List.map _ _).length = _; rw [List.length_map]
      refine q_asg (v := .int ((lgF l many + 0 : Nat) : Int)) (ev_is (ev_op (ev_var rfl) (ev_len (ev_var rfl) (sq_of hpo)) rv_I0) (congrArg V.int (by rw [holen]; exact hlg))) fun H5 e5 => ?_
      refine q_asg (v := .int ((twT l many 0 : Nat) : Int)) (ev_is (ev_call (ea_cons (ev_lenSS (ev_var rfl) (by omega)) (ea_cons (ev_var rfl) ea_nil)) (sv_st h1 h6 (by omega))) (congrArg V.int (by rw [tw_zero nd h1, tl_tot h1]))) fun H6 e6 => ?_
      refine q_while (fun m σ' H' => ∃ i, m = (otF l many).length - i ∧ i ≤ (otF l many).length ∧ σ' = [some (.str (S l)), some (.int (far : Int)), some (.int (many : Int)), some (.ref pt), some (.ref po), some (.int ((lgF l many + i : Nat) : Int)), some (.int ((twT l many i : Nat) : Int)), none, none, none] ∧ Ex H H' ∧ H' po = some (.lst (sV (twO l many i))) ∧ twT l many i ≤ far ∧ ∀ j, j < i → twT l many j + (lgF l many + j) < far)
        _ ⟨0, rfl, Nat.zero_le _, rfl, (e04.trans e5).trans e6, by
          rw [e6 _ _ (e5 _ _ hpo)]
          unfold twO
          rw [Nat.sub_zero, List.take_length], by rw [tw_zero nd h1]; exact h0far, fun j hj => absurd hj (Nat.not_lt_zero _)⟩ ?_
      rintro m σ' H' ⟨i, rfl, hi, rfl, e, hp, ht, hb⟩
      refine ⟨_, et_test (ev_op (ev_op (ev_var rfl) (ev_var rfl) rv_I0) (ev_var rfl) rv_I0), fun hc H7 e7 => ?_, fun hc H7 e7 => ?_⟩
      · have hlt : twT l many i + (lgF l many + i) < far := by have := of_decide_eq_true hc; omega
        have hil : i < (otF l many).length := by
          rcases Nat.lt_or_eq_of_le hi with z | z
          · exact z
          · exfalso
            rw [z, tw_last] at hlt
            have e2' : lgF l many + (otF l many).length = many := by unfold lgF; omega
            rw [e2'] at hlt
            have := tri_even many
            have : many * (many + 3) = many * (many + 1) + 2 * many := by
              rw [Nat.mul_add, Nat.mul_add]; omega
            omega
        obtain ⟨w', hw1, hw2, hw3, hw4⟩ := tw_pop hil
        refine ⟨fun σ2 H2 => ∃ m', m' < (otF l many).length - i ∧ ∃ i, m' = (otF l many).length - i ∧ i ≤ (otF l many).length ∧ σ2 = [some (.str (S l)), some (.int (far : Int)), some (.int (many : Int)), some (.ref pt), some (.ref po), some (.int ((lgF l many + i : Nat) : Int)), some (.int ((twT l many i : Nat) : Int)), none, none, none] ∧ Ex H H2 ∧ H2 po = some (.lst (sV (twO l many i))) ∧ twT l many i ≤ far ∧ ∀ j, j < i → twT l many j + (lgF l many + j) < far, fun _ _ h => h, ?_⟩
        refine q_augR rfl ev_c rv_I0 fun H8 e8 => ?_
        have hp8 := e8 _ _ (e7 _ _ hp)
        rw [hw1] at hp8
        refine s_augPop (K := K) (a := ((twT l many i : Nat) : Int)) (b := ((lgF l many + i : Nat) : Int) + 1) rfl rfl rfl hp8 (by omega) ⟨(otF l many).length - (i + 1), by omega, i + 1, rfl, hil, ?_, Ex.mut ((e.trans e7).trans e8) npo0, upd_same, by omega, fun j hj => ?_⟩
        · have ea : ((lgF l many + i : Nat) : Int) + 1 = ((lgF l many + (i + 1) : Nat) : Int) := by omega
          have eb : ((twT l many i : Nat) : Int) + (((lgF l many + i : Nat) : Int) + 1 - (w'.length : Int)) = ((twT l many (i + 1) : Nat) : Int) := by omega
          rw [eb, ea]
          rfl
        · rcases Nat.lt_or_eq_of_le (Nat.le_of_lt_succ hj) with z | z
          · exact hb j z
          · rw [z]; exact hlt
      · have hge : far ≤ twT l many i + (lgF l many + i) := by have := of_decide_eq_false hc; omega
        have ei := twI_is hi hge hb
        have etw : twF l far many = (onsF l (lgF l many + i)).flatten ++ (twO l many i).flatten ++ onF l (far - twT l many i) := by unfold twF; rw [ei]
        rw [etw] at q
        have hof := ons_flat l (lgF l many + i)
        have htw : (lgF l many + i) * (lgF l many + i + 1) / 2 + (twO l many i).flatten.length = twT l many i := rfl
        have hki : lgF l many + i ≤ many := by unfold lgF; omega
        refine q_asgL (xs := sV (onsF l (lgF l many + i))) ?_ fun pn H8 npn e8 hpn => ?_
        · have hn : (((lgF l many + i : Nat) : Int) + 1 - 1).toNat = lgF l many + i := by omega
          have := el_lcR2 (σ := [some (.str (S l)), some (.int (far : Int)), some (.int (many : Int)), some (.ref pt), some (.ref po), some (.int ((lgF l many + i : Nat) : Int)), some (.int ((twT l many i : Nat) : Int)), none, none, none]) (H := H7) (ta := tCons (tC (.int 1)) (tCons (tOp (rI0 fun i j => .int (i + j)) (tVar 5) (tC (.int 1))) tNil)) (te := tOp rRepS (tOp rIxS (tVar 0) (tC (.int 0))) (tVar 9)) (t := tYes) (j := 9) (vs := [9]) (lo := 1) (n := ((lgF l many + i : Nat) : Int) + 1) (fun _ => true) (fun i => V.str (S (onF l (i + 1)))) (ea_cons ev_c (ea_cons (ev_op (ev_var rfl) ev_c rv_I0) ea_nil)) (by omega) (fun _ => rfl) (fun _ _ _ _ => et_yes) (fun k H8 e8 hk _ => ?_)
          · rw [hn, given_S (fun k => onF l (k + 1))] at this
            exact this
          · have ek : (1 : Int) + (k : Int) = ((k + 1 : Nat) : Int) := by omega
            refine ev_on (k := k + 1) (ev_var rfl) ?_ h1 h6 (by rw [hn] at hk; omega)
            rw [← ek]
            exact ev_var rfl
        · have hp8 := e8 _ _ (e7 _ _ hp)
          have l1 : ((onsF l (lgF l many + i)).map List.length).sum ≤ 1000000 := by rw [← List.length_flatten, hof]; omega
          have l2 : ((twO l many i).map List.length).sum ≤ 1000000 := by rw [← List.length_flatten]; omega
          have hd : (far : Int) - ((twT l many i : Nat) : Int) = ((far - twT l many i : Nat) : Int) := by omega
          refine s_ret (ev_op (ev_op (ev_joinX (K := K) (ev_is ev_c rfl) (ev_var rfl) (sq_of hpn) l1) (ev_joinX (K := K) (ev_is ev_c rfl) (ev_var rfl) (sq_of hp8) l2) (rv_addS (by rw [hof]; omega))) (ev_on (ev_var rfl) (ev_is (ev_op (ev_var rfl) (ev_var rfl) rv_I0) (congrArg V.int hd)) h1 h6 (by omega)) (rv_addS (by rw [List.length_append, hof, on_len]; omega))) fun H9 e9 => q H9 (((e.trans e7).trans e8).trans e9)
def spTwB (CB : Addr) : Sp := fun vs H _ E => ∃ (t : List Nat) (z y : V), vs = [.str (S t), z, y] ∧ NoAbc t ∧ Told CB "alphabet" (.str (S t)) H E
theorem ok_text_with_bad (D_check_alphabet : DnX P w K mg base 4 "check_alphabet" s_check_alphabet ["alphabet"] (spCkB CB)) (F : At K mg "text_with" s_text_with) : DnX P w K mg base 5 "text_with" s_text_with ["alphabet", "length", "count"] (spTwB CB) := by
  refine dnx_ok F sc_text_with (fun _ _ _ _ _ _ us hl => match us, hl with | [_, _, _], _ => rfl) (fun vs H Q E h => ?_) (fun f cdv A outer t H vs Q E hr h => ?_)
  · obtain ⟨l, z, y, rfl, _⟩ := h; rfl
  · obtain ⟨l, z, y, rfl, hno, q⟩ := h
    refine ⟨_, pss_cons (ps_expr (pe_dnx D_check_alphabet (takes_of rfl rfl rfl rfl) hr (by decide) rfl (pa_cons (pv 0) pa_nil))) (pss_cons ps_never (pss_cons ps_never (pss_cons ps_never (pss_cons ps_never (pss_cons ps_never (pss_cons ps_never (pss_cons ps_never (pss_one ps_never)))))))), ?_⟩
    show tCallS (spCkB CB) (WE fun cls d _ H => E cls d H) (tCons (tVar 0) tNil) (start N_text_with [V.str (S l), z, y]) H _
    refine (ea_cons (ev_var (i := 0) rfl) ea_nil : EvA (tCons (tVar 0) tNil) (start N_text_with [V.str (S l), z, y]) H [.str (S l)]) H (Ex.refl H) _ fun H1 e1 => ?_
    exact ⟨l, rfl, hno, q.ex e1⟩
end
end My

set_option Elab.async false
set_option linter.all false
set_option maxRecDepth 100000
set_option maxHeartbeats 4000000
namespace My
open PySem PySem.Spec PyProof.Rows L2 Evl
open SX (S S_len S_cat S_beq S_beq_eq S_inj S_tl)
theorem tw_good {l : List Nat} (nd : l.Nodup) (h1 : 1 ≤ l.length) {far n : Nat} (ha : grF 1 far ≤ n) (hb : n ≤ grF l.length far) : TwOk l far n (twF l far n) := by
  have hle : 2 * far ≤ n * (n + 3) := Nat.le_trans (gr_le (grF_spec (Nat.le_refl 1))).1 (le_mono ha)
  have h0 : twT l n 0 ≤ far := by
    rw [tw_zero nd h1]
    have := tl_gr h1 far
    exact Nat.le_trans (tl_mono l hb) this.1
  have hot := ot_le l n
  have key : ∀ d i, (otF l n).length - i = d → i ≤ (otF l n).length → twT l n i ≤ far → (∀ j, j < i → twT l n j + (lgF l n + j) < far) → TwOk l far n (twF l far n) := by
    intro d
    induction d with
    | zero =>
      intro i hd hi ht hbb
      have ei : i = (otF l n).length := by omega
      refine twOk nd h1 hi ?_ ht hbb
      rw [ei, tw_last]
      have e2' : lgF l n + (otF l n).length = n := by unfold lgF; omega
      rw [e2']
      have := tri_even n
      have : n * (n + 3) = n * (n + 1) + 2 * n := by rw [Nat.mul_add, Nat.mul_add]; omega
      omega
    | succ d ih =>
      intro i hd hi ht hbb
      by_cases z : far ≤ twT l n i + (lgF l n + i)
      · exact twOk nd h1 hi z ht hbb
      · obtain ⟨w', _, hw2, _, hw4⟩ := tw_pop (l := l) (n := n) (i := i) (by omega)
        refine ih (i + 1) (by omega) (by omega) (by omega) fun j hj => ?_
        rcases Nat.lt_or_eq_of_le (Nat.le_of_lt_succ hj) with y | y
        · exact hbb j y
        · rw [y]; omega
  exact key _ 0 rfl (Nat.zero_le _) h0 fun j hj => absurd hj (Nat.not_lt_zero _)
section
variable {P : Program} {w : World} {K : PySem.W.Frag} {mg : Str → Option Value} {base : Heap}
theorem ev_cutMany {K : PySem.W.Frag} {σ : L2.St} {H : Hp} {ta : TE} {E : XK} {text : List Nat} (ha : Ev ta σ H (.str (S text))) (hz : text.length ≤ 4000) : Ev (tCB (rLenS K) (tCons (tOp (rIxL K) (tCall spLC [] E (tCons ta tNil)) (tC (.int 0))) tNil)) σ H (.int ((cutC text).1.length : Int)) := fun H0 e0 Q q =>
  ha H0 e0 _ fun H1 e1 => ⟨text, rfl, hz, fun p k pl rs H2 np e2 hp hk hR hpl => (rv_ixL (K := K) (H := H2) (sq_of hp) rfl) H2 (Ex.refl H2) _ fun H3 e3 => ⟨k, _, rfl, Or.inr (st_of (e3 _ _ hk)), by
    have : (rV rs).length = (cutC text).1.length := by rw [List.length_map]; exact hR.len
    rw [this]
    exact q H3 ((e1.trans e2).trans e3)⟩⟩
abbrev s_law_least : Stmt := top 27
abbrev N_law_least : List Str := ["far", "many"]
theorem sc_law_least : FnScope N_law_least ["far"] (defScope s_law_least) := ⟨rfl, rfl, rfl, by decide +kernel, rfl, by decide +kernel, by decide +kernel⟩
def spLst : Sp := fun vs H Q _ => ∃ far : Nat, vs = [.int (far : Int)] ∧ far ≤ 400 ∧ RetV (.int (grF 1 far : Nat)) H Q
theorem sv_lst {far : Nat} {H : Hp} (hf : far ≤ 400) : SpV spLst [.int (far : Int)] H (.int (grF 1 far : Nat)) := fun _ _ _ q _ => ⟨far, rfl, hf, q⟩
theorem ok_law_least (T : TT mg) (F : At K mg "_law_least" s_law_least) : Dn P w K mg base 1 "_law_least" s_law_least ["far"] spLst := by
  refine dn_ok F sc_law_least (fun _ _ _ _ _ _ us hl => match us, hl with | [_], _ => rfl) (fun vs H Q E h => ?_) (fun f cdv A outer t H vs Q E hr h => ?_)
  · obtain ⟨far, rfl, _⟩ := h; rfl
  · obtain ⟨far, rfl, hf, q⟩ := h
    refine ⟨_, (pss_cons (ps_for PassesOwn.never rfl (pi_range1 (by rfl) T.range (pa_cons pe_int pa_nil)) (pg_name (i := 1) sc_law_least.nd rfl (Or.inl rfl))
        (pss_one (ps_if (pt_cmpR op_ge (pe_op op_mulW (pv 1) (pe_op op_add (pv 1) pe_int)) (pe_op op_mul pe_int (pv 0)) (nomark _)) (pss_one (ps_ret (pv 1))) pss_nil)))
      (pss_one (ps_ret pe_int))), ?_⟩
    refine q_forR1 (ea_cons ev_c ea_nil) ⟨by decide, by decide⟩ (fun i σ' H' => ∃ x : Option V, σ' = [some (.int (far : Int)), x] ∧ Ex H H' ∧ ∀ j, j < i → j * (j + 3) < 2 * far)
      (fun H1 e1 => ⟨none, rfl, e1, fun j hj => absurd hj (Nat.not_lt_zero _)⟩) ?_ ?_
    · rintro i σ' H' hi ⟨x, rfl, e, hb⟩
      have hi2 : i < 60 := by
        have : ((60 : Int)) = ((60 : Nat) : Int) := rfl
        omega
      have em : (i : Int) * ((i : Int) + 3) = ((i * (i + 3) : Nat) : Int) := by rw [Int.natCast_mul]; rfl
      refine s_when (et_test (ev_op (ev_op (ev_var rfl) (ev_op (ev_var rfl) ev_c rv_I0) (rv_I (cw8 (by omega) (by omega)))) (ev_op ev_c (ev_var rfl) (rv_I (Or.inl (by decide)))) rv_I0)) (fun hc H1 e1 => ?_) (fun hc H1 e1 => ?_)
      · have hge : 2 * far ≤ i * (i + 3) := by
          have := of_decide_eq_true hc
          rw [em] at this
          omega
        have hle : Le far i := by
          refine ⟨hge, ?_⟩
          by_cases z : i = 0
          · exact Or.inl z
          · have := hb (i - 1) (by omega)
            rw [show i - 1 + 3 = i + 2 by omega] at this
            exact Or.inr this
        have ei : grF 1 far = i := le_uniq (gr_le (grF_spec (Nat.le_refl 1))) hle
        rw [ei] at q
        exact s_ret (D := { nx := fun _ H' => Q .non H', rt := Q }) (ev_var rfl) fun H2 e2 => q H2 ((e.trans e1).trans e2)
      · have hlt : i * (i + 3) < 2 * far := by
          have := of_decide_eq_false hc
          rw [em] at this
          omega
        refine ⟨_, rfl, e.trans e1, fun j hj => ?_⟩
        rcases Nat.lt_or_eq_of_le (Nat.le_of_lt_succ hj) with z | z
        · exact hb j z
        · rw [z]; exact hlt
    · rintro σ' H' ⟨x, rfl, e, hb⟩
      have := hb 28 (by decide)
      omega
abbrev s_law_greatest : Stmt := top 28
abbrev N_law_greatest : List Str := ["base", "far", "many", "left", "letters", "level", "here", "k"]
theorem sc_law_greatest : FnScope N_law_greatest ["base", "far"] (defScope s_law_greatest) := ⟨rfl, rfl, rfl, by decide +kernel, rfl, by decide +kernel, by decide +kernel⟩
def spGrt : Sp := fun vs H Q _ => ∃ s far : Nat, vs = [.int (s : Int), .int (far : Int)] ∧ 1 ≤ s ∧ s ≤ 6 ∧ far ≤ 400 ∧ RetV (.int (grF s far : Nat)) H Q
theorem sv_grt {s far : Nat} {H : Hp} (h1 : 1 ≤ s) (h6 : s ≤ 6) (hf : far ≤ 400) : SpV spGrt [.int (s : Int), .int (far : Int)] H (.int (grF s far : Nat)) := fun _ _ _ q _ => ⟨s, far, rfl, h1, h6, hf, q⟩
theorem ok_law_greatest (T : TT mg) (F : At K mg "_law_greatest" s_law_greatest) : Dn P w K mg base 1 "_law_greatest" s_law_greatest ["base", "far"] spGrt := by
  refine dn_ok F sc_law_greatest (fun _ _ _ _ _ _ us hl => match us, hl with | [_, _], _ => rfl) (fun vs H Q E h => ?_) (fun f cdv A outer t H vs Q E hr h => ?_)
  · obtain ⟨s, far, rfl, _⟩ := h; rfl
  · obtain ⟨s, far, rfl, h1, h6, hf, q⟩ := h
    refine ⟨_, (pss_cons (ps_set (i := 2) sc_law_greatest.nd rfl (Or.inl rfl) pe_int)
      (pss_cons (ps_set (i := 3) sc_law_greatest.nd rfl (Or.inl rfl) (pv 1))
      (pss_cons (ps_set (i := 4) sc_law_greatest.nd rfl (Or.inl rfl) pe_int)
      (pss_cons (ps_set (i := 5) sc_law_greatest.nd rfl (Or.inl rfl) (pv 0))
      (pss_cons (ps_set (i := 6) sc_law_greatest.nd rfl (Or.inl rfl) (pv 0))
      (pss_cut (ps_for PassesOwn.never rfl (pi_range1 (by rfl) T.range (pa_cons pe_int pa_nil)) (pg_name (i := 7) sc_law_greatest.nd rfl (Or.inl rfl))
        (pss_cut (ps_if (pt_cmpR op_eq (pv 6) pe_int (nomark _)) (pss_cons (ps_set (i := 4) sc_law_greatest.nd rfl (Or.inl rfl) (pe_op op_add (pv 4) pe_int))
            (pss_cons (ps_set (i := 5) sc_law_greatest.nd rfl (Or.inl rfl) (pe_op op_mul (pv 5) (pv 0)))
            (pss_one (ps_set (i := 6) sc_law_greatest.nd rfl (Or.inl rfl) (pv 5))))) pss_nil)
          (pss_cons (ps_if (pt_cmpR op_gt (pv 4) (pv 3) (nomark _)) (pss_one ps_break) pss_nil)
          (pss_cons (ps_set (i := 3) sc_law_greatest.nd rfl (Or.inl rfl) (pe_op op_sub (pv 3) (pv 4)))
          (pss_cons (ps_set (i := 6) sc_law_greatest.nd rfl (Or.inl rfl) (pe_op op_sub (pv 6) pe_int))
          (pss_one (ps_set (i := 2) sc_law_greatest.nd rfl (Or.inl rfl) (pe_op op_add (pv 2) pe_int))))))))
      (pss_one (ps_ret (pv 2))))))))), ?_⟩
    refine q_asg ev_c fun H1 e1 => ?_
    refine q_asg (ev_var rfl) fun H2 e2 => ?_
    refine q_asg ev_c fun H3 e3 => ?_
    refine q_asg (ev_var rfl) fun H4 e4 => ?_
    refine q_asg (ev_var rfl) fun H5 e5 => ?_
    have e05 := (((e1.trans e2).trans e3).trans e4).trans e5
    refine q_cut (M := fun σ' H' => ∃ a b c d x : Option V, σ' = [some (.int (s : Int)), some (.int (far : Int)), some (.int (grF s far : Nat)), a, b, c, d, x] ∧ Ex H H') ?_ ?_
    · refine s_forR1 (ea_cons ev_c ea_nil) ⟨by decide, by decide⟩ (fun k σ' H' => ∃ (v j : Nat) (x : Option V), k = Sn s v + j ∧ j ≤ s ^ (v + 1) ∧ Bn s v + (v + 1) * j ≤ far ∧ σ' = [some (.int (s : Int)), some (.int (far : Int)), some (.int (k : Int)), some (.int ((far : Int) - ((Bn s v + (v + 1) * j : Nat) : Int))), some (.int ((v + 1 : Nat) : Int)), some (.int ((s ^ (v + 1) : Nat) : Int)), some (.int (((s ^ (v + 1) : Nat) : Int) - (j : Int))), x] ∧ Ex H H')
        (fun H6 e6 => ⟨0, 0, none, rfl, Nat.zero_le _, Nat.zero_le _, by
          have p1 : s ^ (0 + 1) = s := by rw [Nat.zero_add, Nat.pow_one]
          rw [p1]
          have p2 : (far : Int) - ((Bn s 0 + (0 + 1) * 0 : Nat) : Int) = (far : Int) := by show (far : Int) - 0 = _; omega
          have p3 : ((s : Nat) : Int) - ((0 : Nat) : Int) = (s : Int) := by omega
          rw [p2, p3]
          rfl, e05.trans e6⟩) ?_ ?_
      · rintro k σ' H' hk ⟨v, j, x, hkk, hj, ht, rfl, e⟩
        refine q_cut (M := fun σ2 H2 => ∃ (v j : Nat), k = Sn s v + j ∧ j < s ^ (v + 1) ∧ Bn s v + (v + 1) * j ≤ far ∧ σ2 = [some (.int (s : Int)), some (.int (far : Int)), some (.int (k : Int)), some (.int ((far : Int) - ((Bn s v + (v + 1) * j : Nat) : Int))), some (.int ((v + 1 : Nat) : Int)), some (.int ((s ^ (v + 1) : Nat) : Int)), some (.int (((s ^ (v + 1) : Nat) : Int) - (j : Int))), some (.int (k : Int))] ∧ Ex H H2) ?_ ?_
        · refine s_when (et_test (ev_op (ev_var rfl) ev_c (rv_eq rfl))) (fun hb H6 e6 => ?_) (fun hb H6 e6 => ?_)
          · have hjj : j = s ^ (v + 1) := by
              have := of_decide_eq_true hb
              injection this
              omega
            refine q_asg (ev_op (ev_var rfl) ev_c rv_I0) fun H7 e7 => ?_
            refine q_asg (ev_op (ev_var rfl) (ev_var rfl) (rv_I (Or.inr (by omega)))) fun H8 e8 => ?_
            refine s_asg (ev_var rfl) fun H9 e9 => ⟨v + 1, 0, hkk.trans (by rw [hjj]; rfl), pow_pos' h1 _, ?_, ?_, (((e.trans e6).trans e7).trans e8).trans e9⟩
            · show Bn s v + (v + 1) * s ^ (v + 1) + (v + 1 + 1) * 0 ≤ far
              rw [Nat.mul_zero, ← hjj]
              exact ht
            · have q1 : Bn s (v + 1) + (v + 1 + 1) * 0 = Bn s v + (v + 1) * j := by rw [hjj, Nat.mul_zero]; rfl
              have q2 : ((s ^ (v + 1 + 1) : Nat) : Int) - ((0 : Nat) : Int) = ((s ^ (v + 1 + 1) : Nat) : Int) := by omega
              rw [q1, q2, ← cP, ← cN]
              rfl
          · have hjj : j ≠ s ^ (v + 1) := by
              intro z
              have := of_decide_eq_false hb
              refine this (congrArg V.int ?_)
              omega
            exact ⟨v, j, hkk, by omega, ht, rfl, e.trans e6⟩
        rintro σ2 H2 ⟨v, j, hkk, hj, ht, rfl, e⟩
        have htot : totF s k = Bn s v + (v + 1) * j := totF_is h1 ⟨v, j, hkk, Nat.le_of_lt hj, rfl⟩
        have hmul : (v + 1) * (j + 1) = (v + 1) * j + (v + 1) := Nat.mul_succ _ _
        have htot1 : totF s (k + 1) = Bn s v + (v + 1) * j + (v + 1) := totF_is h1 ⟨v, j + 1, by omega, hj, by omega⟩
        refine q_when (et_test (ev_op (ev_var rfl) (ev_var rfl) rv_I0)) (fun hb H6 e6 => ?_) (fun hb H6 e6 => ?_)
        · have hgt : far < totF s (k + 1) := by
            have := of_decide_eq_true hb
            rw [htot1]
            omega
          have eg : grF s far = k := grF_is h1 ⟨by rw [htot]; exact ht, hgt⟩
          exact ⟨_, _, _, _, _, by rw [eg], e.trans e6⟩
        · have hle : Bn s v + (v + 1) * j + (v + 1) ≤ far := by
            have := of_decide_eq_false hb
            omega
          refine q_asg (ev_op (ev_var rfl) (ev_var rfl) rv_I0) fun H7 e7 => ?_
          refine q_asg (ev_op (ev_var rfl) ev_c rv_I0) fun H8 e8 => ?_
          refine s_asg (ev_op (ev_var rfl) ev_c rv_I0) fun H9 e9 => ⟨v, j + 1, some (.int (k : Int)), by omega, hj, by rw [hmul]; omega, ?_, ((e.trans e6).trans e7).trans (e8.trans e9)⟩
          have q1 : (far : Int) - ((Bn s v + (v + 1) * (j + 1) : Nat) : Int) = (far : Int) - ((Bn s v + (v + 1) * j : Nat) : Int) - ((v + 1 : Nat) : Int) := by rw [hmul]; omega
          have q2 : ((s ^ (v + 1) : Nat) : Int) - ((j + 1 : Nat) : Int) = ((s ^ (v + 1) : Nat) : Int) - (j : Int) - 1 := by omega
          rw [q1, q2]
          rfl
      · rintro σ' H' ⟨v, j, x, hkk, hj, ht, rfl, e⟩
        have h500 : Int.toNat 500 = 500 := rfl
        rw [h500] at hkk
        have htot : totF s 500 = Bn s v + (v + 1) * j := totF_is h1 ⟨v, j, hkk, hj, rfl⟩
        have := totF_ge (s := s) (c := 500) h1
        omega
    rintro σ' H6 ⟨a, b, c, d, x, rfl, e⟩
    exact s_ret (ev_var rfl) fun H7 e7 => q H7 (e.trans e7)
abbrev s_law_manies : Stmt := top 30
abbrev N_law_manies : List Str := ["least", "most", "row", "wide", "drawn", "many"]
theorem sc_law_manies : FnScope N_law_manies ["least", "most", "row"] (defScope s_law_manies) := ⟨rfl, rfl, rfl, by decide +kernel, rfl, by decide +kernel, by decide +kernel⟩
def spMan : Sp := fun vs H Q _ => ∃ (least most : Nat) (p : Addr) (a b : Int), vs = [.int (least : Int), .int (most : Int), .ref p] ∧ least ≤ most ∧ most ≤ 400 ∧ H p = some (.lst [.int a, .int b]) ∧ ∀ ms : List Nat, ms.length ≤ 40 → RetL (nV ms) H Q
theorem given_N (g : Nat → Nat) : ∀ n, given n (fun _ => true) (fun i => V.int ((g i : Nat) : Int)) = nV ((List.range n).map g)
  | 0 => rfl
  | n + 1 => by
    rw [given_yes rfl, given_N g n, List.range_succ, List.map_append]
    unfold nV
    rw [List.map_append]
    rfl
theorem ok_law_manies (T : TT mg) (F : At K mg "_law_manies" s_law_manies) : Dn P w K mg base 1 "_law_manies" s_law_manies ["least", "most", "row"] spMan := by
  refine dn_ok F sc_law_manies (fun _ _ _ _ _ _ us hl => match us, hl with | [_, _, _], _ => rfl) (fun vs H Q E h => ?_) (fun f cdv A outer t H vs Q E hr h => ?_)
  · obtain ⟨least, most, p, a, b, rfl, _⟩ := h; rfl
  · obtain ⟨least, most, p, a, b, rfl, hlm, hm, hp, q⟩ := h
    refine ⟨_, (pss_cons (ps_if (pt_cmpR op_le (pe_op op_sub (pv 1) (pv 0)) pe_int (nomark _)) (pss_one (ps_ret (pe_lc (own := [("many", 5)]) (g := gName 5) (tt := tYes) rfl sc_law_manies.nd (pi_range2 (by rfl) T.range (pa_cons (pe_callB (call_max2 rfl) (by rfl) T.max (by decide +kernel) (pa_cons pe_int (pa_cons (pe_op op_sub (pv 0) pe_int) pa_nil))) (pa_cons (pe_op op_add (pv 1) pe_int) pa_nil))) (blkOk_by (own := [("many", 5)]) (N := N_law_manies) (sc := defScope s_law_manies) (by decide +kernel)) (fun _ _ _ _ _ => pg_name (i := 5) sc_law_manies.nd rfl (Or.inl rfl)) (fun _ _ _ _ _ => pts_nil) (fun _ _ _ _ _ => (pv 5))))) pss_nil)
      (pss_cons (ps_set (i := 3) sc_law_manies.nd rfl (Or.inl rfl) (pe_op op_add (pe_op op_sub (pv 1) (pv 0)) pe_int))
      (pss_cons (ps_set (i := 4) sc_law_manies.nd rfl (Or.inl rfl) (pe_lst (pa_cons (pe_op op_add (pv 0) (pe_op op_mod (pe_callTy call_int1 (by rfl) T.int_ (by decide +kernel) (pa_cons (pe_ix ix_list (pv 2) pe_int (fun _ _ => rfl)) pa_nil)) (pv 3))) (pa_cons (pe_op op_add (pv 0) (pe_op op_mod (pe_callTy call_int1 (by rfl) T.int_ (by decide +kernel) (pa_cons (pe_ix ix_list (pv 2) pe_int (fun _ _ => rfl)) pa_nil)) (pv 3))) pa_nil))))
      (pss_one (ps_ret (pe_op op_cat (pe_lst (pa_cons (pe_callB (call_max2 rfl) (by rfl) T.max (by decide +kernel) (pa_cons pe_int (pa_cons (pe_op op_sub (pv 0) pe_int) pa_nil))) (pa_cons (pv 0) (pa_cons (pe_op op_add (pv 0) pe_int) (pa_cons (pe_op op_sub (pv 1) pe_int) (pa_cons (pv 1) (pa_cons (pe_op op_add (pv 1) pe_int) pa_nil))))))) (pv 4))))))), ?_⟩
    have hmax : (if (0 : Int) < (least : Int) - 1 then (least : Int) - 1 else 0) = ((least - 1 : Nat) : Int) := by
      split <;> omega
    refine q_when (et_test (ev_op (ev_op (ev_var rfl) (ev_var rfl) rv_I0) ev_c rv_I0)) (fun hb H1 e1 => ?_) (fun hb H1 e1 => ?_)
    · have h24 : (most : Int) - (least : Int) ≤ 24 := of_decide_eq_true hb
      refine s_retL (xs := nV ((List.range ((most : Int) + 2 - ((least - 1 : Nat) : Int)).toNat).map fun i => least - 1 + i)) ?_ fun p H2 np e2 hp => q _ (by rw [List.length_map, List.length_range]; omega) p H2 (fresh_back e1 np) (e1.trans e2) hp
      rw [← given_N]
      refine el_lcR2 (lo := ((least - 1 : Nat) : Int)) (n := (most : Int) + 2) (fun _ => true) (fun i => V.int ((least - 1 + i : Nat) : Int)) (ea_cons (ev_is (ev_max2 ev_c (ev_op (ev_var rfl) ev_c rv_I0)) (congrArg V.int ?_)) (ea_cons (ev_op (ev_var rfl) ev_c rv_I0) ea_nil)) (by omega) (fun _ => rfl) (fun _ _ _ _ => et_yes) (fun k H8 e8 hk _ => ?_)
      · omega
      · exact ev_is (ev_var rfl) (congrArg V.int (by omega))
    · have h24 : 24 < (most : Int) - (least : Int) := by have := of_decide_eq_false hb; omega
      have hp1 := e1 _ _ hp
      refine q_asg (ev_op (ev_op (ev_var rfl) (ev_var rfl) rv_I0) ev_c rv_I0) fun H2 e2 => ?_
      have hm1 := fun i : Int => Int.emod_nonneg i (show ((most : Int) - (least : Int) + 1) ≠ 0 by omega)
      obtain ⟨x, hx⟩ : ∃ x : Nat, (least : Int) + a % ((most : Int) - (least : Int) + 1) = (x : Int) := ⟨((least : Int) + a % ((most : Int) - (least : Int) + 1)).toNat, by have := hm1 a; omega⟩
      obtain ⟨y, hy⟩ : ∃ y : Nat, (least : Int) + b % ((most : Int) - (least : Int) + 1) = (y : Int) := ⟨((least : Int) + b % ((most : Int) - (least : Int) + 1)).toNat, by have := hm1 b; omega⟩
      refine q_asgL (xs := nV [x, y]) ?_ fun p2 H3 np2 e3 hp2 => ?_
      · show EvL _ _ _ [V.int (x : Int), V.int (y : Int)]
        rw [← hx, ← hy]
        exact el_lst (ea_cons (ev_op (ev_var rfl) (ev_op (ev_int (ev_op (ev_var rfl) ev_c (rv_ixL (K := K) (sq_of (e2 _ _ hp1)) rfl))) (ev_var rfl) (rv_I (by show (0 : Int) < _; omega))) rv_I0) (ea_cons (ev_op (ev_var rfl) (ev_op (ev_int (ev_op (ev_var rfl) ev_c (rv_ixL (K := K) (sq_of (e2 _ _ hp1)) rfl))) (ev_var rfl) (rv_I (by show (0 : Int) < _; omega))) rv_I0) ea_nil)) (by show 2 ≤ 100000; decide)
      · refine s_retL (xs := nV ([least - 1, least, least + 1, most - 1, most, most + 1] ++ [x, y])) ?_ fun p H4 np e4 hp => q _ (by show 8 ≤ 40; decide) p H4 (fresh_back ((e1.trans e2).trans e3) np) (((e1.trans e2).trans e3).trans e4) hp
        have : nV ([least - 1, least, least + 1, most - 1, most, most + 1] ++ [x, y]) = [V.int ((least - 1 : Nat) : Int), V.int (least : Int), V.int ((least + 1 : Nat) : Int), V.int ((most - 1 : Nat) : Int), V.int (most : Int), V.int ((most + 1 : Nat) : Int)] ++ nV [x, y] := rfl
        rw [this]
        exact el_catV (el_lst (ea_cons (ev_is (ev_max2 ev_c (ev_op (ev_var rfl) ev_c rv_I0)) (congrArg V.int (by omega))) (ea_cons (ev_var rfl) (ea_cons (ev_is (ev_op (ev_var rfl) ev_c rv_I0) (congrArg V.int (by omega))) (ea_cons (ev_is (ev_op (ev_var rfl) ev_c rv_I0) (congrArg V.int (by omega))) (ea_cons (ev_var rfl) (ea_cons (ev_is (ev_op (ev_var rfl) ev_c rv_I0) (congrArg V.int (by omega))) ea_nil)))))) (by show 6 ≤ 100000; decide)) (ev_var rfl) hp2 (by show 6 + 2 ≤ _; decide)
end
section
variable {P : Program} {w : World} {K : PySem.W.Frag} {mg : Str → Option Value} {base : Heap}
variable {CG CC CB CP CL CI CK CW CT CO : Addr}
abbrev s_law_told : Stmt := top 31
abbrev N_law_told : List Str := ["abc", "far", "many", "least", "most", "told", "letter"]
theorem sc_law_told : FnScope N_law_told ["abc", "far", "many", "least", "most"] (defScope s_law_told) := ⟨rfl, rfl, rfl, by decide +kernel, rfl, by decide +kernel, by decide +kernel⟩
def spTo : Sp := fun vs H Q _ => ∃ (l : List Nat) (far many : Nat), vs = [.str (S l), .int (far : Int), .int (many : Int), .int (grF 1 far : Nat), .int (grF l.length far : Nat)] ∧ AbcOk l ∧ far ≤ 400 ∧ RetV (.bl true) H Q
theorem ok_law_told (D_text_with : Dn P w K mg base 3 "text_with" s_text_with ["alphabet", "length", "count"] spTw) (D_law_cut : Dn P w K mg base 1 "_law_cut" s_law_cut ["text"] spLC) (T : TC K mg CG CC) (F : At K mg "_law_told" s_law_told) : Dn P w K mg base 4 "_law_told" s_law_told ["abc", "far", "many", "least", "most"] spTo := by
  refine dn_ok F sc_law_told (fun _ _ _ _ _ _ us hl => match us, hl with | [_, _, _, _, _], _ => rfl) (fun vs H Q E h => ?_) (fun f cdv A outer t H vs Q E hr h => ?_)
  · obtain ⟨l, far, many, rfl, _⟩ := h; rfl
  · obtain ⟨l, far, many, rfl, hA, hf, q⟩ := h
    refine ⟨_, (pss_cons (ps_set (i := 5) sc_law_told.nd rfl (Or.inl rfl) (pe_dn D_text_with hr (by decide) rfl (pa_cons (pv 0) (pa_cons (pv 1) (pa_cons (pv 2) pa_nil)))))
      (pss_cons (ps_if (PW.pt (pw_or (pt_cmpR op_lt (pv 2) (pv 3) (nomark _)) (pw_or1 (pt_cmpR op_gt (pv 2) (pv 4) (nomark _))))) (pss_one (ps_ret (pe_cmpR op_isN (pv 5) pe_non (nomark _)))) pss_nil)
      (pss_cons (ps_if (PW.pt (pw_or (pt_not (pt_val (pe_callB call_isi (by rfl) T.isinstance (by decide +kernel) (pa_cons (pv 5) (pa_cons (pe_tyn "str" rfl T.str_ (by decide +kernel)) pa_nil))))) (pw_or1 (pt_cmpR op_ne (pe_callB call_len_str (by rfl) T.len boot_len (pa_cons (pv 5) pa_nil)) (pv 1) (nomark _))))) (pss_one (ps_ret pe_bl)) pss_nil)
      (pss_cons (ps_for PassesOwn.never rfl (pi_str (pv 5)) (pg_name (i := 6) sc_law_told.nd rfl (Or.inl rfl))
        (pss_one (ps_if (pt_cmpR op_notIn_str (pv 6) (pv 0) (by rfl)) (pss_one (ps_ret pe_bl)) pss_nil)))
      (pss_one (ps_ret (pe_cmpR op_eq (pe_callB call_len_seq (by rfl) T.len boot_len (pa_cons (pe_ix ix_list (pe_dn D_law_cut hr (by decide) rfl (pa_cons (pv 5) pa_nil)) pe_int (fun _ _ => rfl)) pa_nil)) (pv 2) (nomark _)))))))), ?_⟩
    have h1 := hA.1
    have h6 := hA.2.1
    refine q_asg (ev_call (ea_cons (ev_var rfl) (ea_cons (ev_var rfl) (ea_cons (ev_var rfl) ea_nil))) (sv_tw hA hf)) fun H1 e1 => ?_
    refine q_when (et_or (et_test (ev_op (ev_var rfl) (ev_var rfl) rv_I0)) fun _ => et_test (ev_op (ev_var rfl) (ev_var rfl) rv_I0)) (fun hb H2 e2 => ?_) (fun hb H2 e2 => ?_)
    · have hno : ¬ (grF 1 far ≤ many ∧ many ≤ grF l.length far) := by
        rintro ⟨a, b⟩
        rw [decide_eq_false (by omega), decide_eq_false (by omega)] at hb
        exact absurd hb (by decide)
      have ev : twV l far many = .non := if_neg hno
      rw [ev]
      refine s_ret (v := .bl true) (fun H3 e3 Q3 q3 => ?_) fun H3 e3 => q H3 ((e1.trans e2).trans e3)
      exact ⟨_, rfl, rfl, by rw [decide_eq_true rfl]; exact q3 H3 (Ex.refl H3)⟩
    · have hyes : grF 1 far ≤ many ∧ many ≤ grF l.length far := by
        obtain ⟨a, b⟩ := Bool.or_eq_false_iff.mp hb
        have := of_decide_eq_false a
        have := of_decide_eq_false b
        omega
      have ev : twV l far many = .str (S (twF l far many)) := if_pos hyes
      rw [ev]
      have ok := tw_good hA.nd8 h1 hyes.1 hyes.2
      refine q_when (b := !true || !decide (V.int ((twF l far many).length : Int) = V.int (far : Int))) (et_or (et_not (et_B (ev_isi (ev_var rfl) ev_c (ClsV.ty "str") (fun _ _ => .base (.str _)) kit_str_str))) fun _ => et_test (ev_op (ev_lenSS (ev_var rfl) (by rw [ok.len]; omega)) (ev_var rfl) (rv_ne rfl))) (fun hb => absurd hb (by rw [ok.len, decide_eq_true rfl]; decide)) fun _ H3 e3 => ?_
      refine q_forS (ev_var rfl) (fun i σ' H' => ∃ x : Option V, σ' = [some (.str (S l)), some (.int (far : Int)), some (.int (many : Int)), some (.int (grF 1 far : Nat)), some (.int (grF l.length far : Nat)), some (.str (S (twF l far many))), x] ∧ Ex H H')
        (fun H4 e4 => ⟨none, rfl, ((e1.trans e2).trans e3).trans e4⟩) ?_ ?_
      · rintro i c σ' H' hc ⟨x, rfl, e⟩
        rw [S_get] at hc
        refine s_when (b := !decide (c ∈ l)) (et_test (ev_op (r := rNiS) (ev_var rfl) (ev_var rfl) rv_niS)) (fun hb => absurd hb (by rw [decide_eq_true (ok.sub c (List.mem_of_getElem? hc))]; decide)) fun _ H4 e4 => ⟨_, rfl, e.trans e4⟩
      · rintro σ' H' ⟨x, rfl, e⟩
        refine s_ret (v := .bl true) (ev_is (ev_op (ev_cutMany (ev_var rfl) (by rw [ok.len]; omega)) (ev_var rfl) (rv_eq rfl)) (by rw [ok.cut, decide_eq_true rfl])) fun H4 e4 => q H4 (e.trans e4)
abbrev s_law_refused : Stmt := top 34
abbrev N_law_refused : List Str := ["bad", "far", "many", "e"]
theorem sc_law_refused : FnScope N_law_refused ["bad", "far", "many"] (defScope s_law_refused) := ⟨rfl, rfl, rfl, by decide +kernel, rfl, by decide +kernel, by decide +kernel⟩
def spRf : Sp := fun vs H Q _ => ∃ (t : List Nat) (far many : Int), vs = [.str (S t), .int far, .int many] ∧ t.length ≤ 200 ∧ Ch t ∧ RetV (.bl true) H Q
/-- the suite's words -/
def tSuite (K : PySem.W.Frag) (CB CL CI CK CW CT CO : Addr) (a : Addr) (cls : Value) (d : Option Addr) : TS :=
  tSeq (tIfS (tOr (tNot (tB (tCB (rIsX K a cls d) (tCons (tVar 3) (tCons (tC (.ref CB)) tNil))))) (tNot (tB (tCB (rIsX K a cls d) (tCons (tVar 3) (tCons (tC (.ty "ValueError")) tNil)))))) (tRet (tC (.bl false))) tNext)
  (tSeq (tIfS (tB (tCB (rIsXT K a cls d) (tCons (tVar 3) (tCons (tTup (tCons (tC (.ref CL)) (tCons (tC (.ref CI)) (tCons (tC (.ref CK)) (tCons (tC (.ref CW)) (tCons (tC (.ref CT)) (tCons (tC (.ref CO)) tNil))))))) tNil)))) (tRet (tC (.bl false))) tNext)
  (tRet (tAndV (tCB (rIsi K) (tCons (tXf a cls d CB "alphabet" (tVar 3)) (tCons (tC (.ty "str")) tNil))) (tOp rEq (tXf a cls d CB "alphabet" (tVar 3)) (tVar 0)))))
theorem ok_law_refused (D_law_is_alphabet : Dn P w K mg base 1 "_law_is_alphabet" s_law_is_alphabet ["word"] spIA) (D_text_with : DnX P w K mg base 5 "text_with" s_text_with ["alphabet", "length", "count"] (spTwB CB)) (X8 : Ex8 K mg CB CP CL CI CK CW CT CO) (T : TT mg) (F : At K mg "_law_refused" s_law_refused) : Dn P w K mg base 6 "_law_refused" s_law_refused ["bad", "far", "many"] spRf := by
  refine dn0_ok F sc_law_refused (fun _ _ _ _ _ _ us hl => match us, hl with | [_, _, _], _ => rfl) (fun vs H Q E h => ?_) (fun f cdv A outer s H vs Q E hr h => ?_)
  · obtain ⟨t, far, many, rfl, _⟩ := h; rfl
  · obtain ⟨t, far, many, rfl, hlen, hch, q⟩ := h
    refine ⟨_, pss_cons (ps_if (pt_val (pe_dn D_law_is_alphabet hr (by decide) rfl (pa_cons (pv 0) pa_nil))) (pss_one (ps_ret pe_bl)) pss_nil)
      (pss_cons (ps_try_as (i := 3) (tb := fun W => tDrop (tCallS (spTwB CB) (WE W) (tCons (tVar 0) (tCons (tVar 1) (tCons (tVar 2) tNil))))) (ts := tSuite K CB CL CI CK CW CT CO) (Wout := fun _ _ _ _ => False) rfl rfl sc_law_refused.nd rfl rfl ⟨rfl, by decide, Or.inl X8.mP⟩ takes0
          (fun W pn xe tk _ => pss_one (ps_expr (pe_dnx D_text_with tk hr (by decide) rfl (pa_cons (pv 0) (pa_cons (pv 1) (pa_cons (pv 2) pa_nil))))))
          (fun a oe cls d pn hz hf => pss_cons (ps_if (PW.pt (pw_or (pt_not (pt_val (pe_callB (call_isX hz hf) (by rfl) T.isinstance (by decide +kernel) (pa_cons (pv 3) (pa_cons (pe_glob rfl X8.mB rfl) pa_nil))))) (pw_or1 (pt_not (pt_val (pe_callB (call_isX hz hf) (by rfl) T.isinstance (by decide +kernel) (pa_cons (pv 3) (pa_cons (pe_tyn "ValueError" rfl X8.mV (by decide +kernel)) pa_nil)))))))) (pss_one (ps_ret pe_bl)) pss_nil)
            (pss_cons (ps_if (pt_val (pe_callB (call_isXT hz hf) (by rfl) T.isinstance (by decide +kernel) (pa_cons (pv 3) (pa_cons (pe_tup (pa_cons (pe_glob rfl X8.mL rfl) (pa_cons (pe_glob rfl X8.mI rfl) (pa_cons (pe_glob rfl X8.mK rfl) (pa_cons (pe_glob rfl X8.mW rfl) (pa_cons (pe_glob rfl X8.mT rfl) (pa_cons (pe_glob rfl X8.mO rfl) pa_nil))))))) pa_nil)))) (pss_one (ps_ret pe_bl)) pss_nil)
            (pss_one (ps_ret (pe_and (pe_callB call_isi (by rfl) T.isinstance (by decide +kernel) (pa_cons (pe_xf X8.xf X8.no hz hf (pv 3)) (pa_cons (pe_tyn "str" rfl T.str_ (by decide +kernel)) pa_nil))) (pe_one (pe_cmpR op_eq (pe_xf X8.xf X8.no hz hf (pv 3)) (pv 0) (nomark _)))))))))
      (pss_one (ps_ret pe_bl))), ?_⟩
    by_cases hA : AbcOk t
    · refine q_when (b := true) (et_B (ev_call (ea_cons (ev_var rfl) ea_nil) (fun H1 e1 Q1 q1 _ => ⟨t, rfl, by omega, fun b hb => by rw [hb.mpr hA]; exact q1⟩))) (fun _ H1 e1 => s_ret ev_c fun H2 e2 => q H2 (e1.trans e2)) (fun hb => absurd hb (by decide))
    · refine q_when (b := false) (et_B (ev_call (ea_cons (ev_var rfl) ea_nil) (fun H1 e1 Q1 q1 _ => ⟨t, rfl, by omega, fun b hb => by
        cases b with
        | true => exact absurd (hb.mp rfl) hA
        | false => exact q1⟩))) (fun hb => absurd hb (by decide)) fun _ H1 e1 => ?_
      show tCallS (spTwB CB) (WE (wAs K (.ref CP) 3 (tSuite K CB CL CI CK CW CT CO) (fun _ _ _ _ => False) _)) (tCons (tVar 0) (tCons (tVar 1) (tCons (tVar 2) tNil))) [some (.str (S t)), some (.int far), some (.int many), none] H1 _
      refine (ea_cons (ev_var (i := 0) rfl) (ea_cons (ev_var (i := 1) rfl) (ea_cons (ev_var (i := 2) rfl) ea_nil)) : EvA (tCons (tVar 0) (tCons (tVar 1) (tCons (tVar 2) tNil))) [some (.str (S t)), some (.int far), some (.int many), none] H1 [.str (S t), .int far, .int many]) H1 (Ex.refl H1) _ fun H2 e2 => ?_
      refine ⟨t, .int far, .int many, rfl, ⟨hA, hlen, hch⟩, fun d H3 e3 hd hx => ?_⟩
      refine ⟨true, X8.exm, fun _ a ha => ?_, fun z => absurd z (by decide)⟩
      have e03 := (e1.trans e2).trans e3
      show tSuite K CB CL CI CK CW CT CO a (.ref CB) (some d) _ [some (.str (S t)), some (.int far), some (.int many), some (.ref a)] H3
      refine q_when (b := !true || !true) (et_or (et_not (et_B (ev_isX (ev_var rfl) ev_c (ClsV.own CB) rfl X8.xc rfl hx kit_self))) fun _ => et_not (et_B (ev_isX (ev_var rfl) ev_c (ClsV.ty "ValueError") rfl X8.xc rfl hx X8.kV))) (fun hb => absurd hb (by decide)) fun _ H4 e4 => ?_
      refine q_when (b := false) (et_B (ev_isXT (cs := [.ref CL, .ref CI, .ref CK, .ref CW, .ref CT, .ref CO]) (ws := [.ref CL, .ref CI, .ref CK, .ref CW, .ref CT, .ref CO]) (ev_var rfl) (eu_tup (ea_cons ev_c (ea_cons ev_c (ea_cons ev_c (ea_cons ev_c (ea_cons ev_c (ea_cons ev_c ea_nil)))))) (by show 6 ≤ 100000; decide)) (.cons (ClsV.own _) (.cons (ClsV.own _) (.cons (ClsV.own _) (.cons (ClsV.own _) (.cons (ClsV.own _) (.cons (ClsV.own _) .nil)))))) rfl X8.xc rfl (e4 _ _ hx) X8.kT)) (fun hb => absurd hb (by decide)) fun _ H5 e5 => ?_
      have hx5 := e5 _ _ (e4 _ _ hx)
      have hl : List.lookup ("alphabet" : Str) [(("alphabet" : Str), V.str (S t))] = some (V.str (S t)) := by simp [List.lookup]
      refine s_ret (v := .bl (true && true)) (ev_andV (a := true) (b := true) (ev_isi (ev_xf (ev_var rfl) rfl rfl hx5 hl) ev_c (ClsV.ty "str") (fun _ _ => .base (.str _)) kit_str_str) fun _ => ev_is (ev_op (ev_xf (ev_var rfl) rfl rfl hx5 hl) (ev_var rfl) (rv_eq rfl)) (congrArg V.bl (decide_eq_true rfl))) fun H6 e6 => q H6 (((e03.trans e4).trans e5).trans e6)
end
end My

set_option Elab.async false
set_option linter.all false
set_option maxRecDepth 100000
set_option maxHeartbeats 4000000
namespace My
open PySem PySem.Spec PyProof.Rows L2 Evl
open SX (S S_len S_cat S_beq S_beq_eq S_inj S_tl)
theorem el_catW {xs ys : List V} {a : Addr} (ha : Ev ta σ H (.ref a)) (hx : H a = some (.lst xs)) (hb : EvL tb σ H ys) (hz : xs.length + ys.length ≤ 100000) : EvL (tOp rCat ta tb) σ H (xs ++ ys) := fun H1 e Q q =>
  ha H1 e _ fun H2 e2 => hb H2 (e.trans e2) _ fun r H3 hr e3 h3 => ⟨a, r, xs, ys, rfl, rfl, ((e.trans e2).trans e3) a _ hx, h3, sz_of hz, fun l hl => q l _ (fresh_back (e2.trans e3) hl) ((e2.trans e3).trans (Ex.new hl)) upd_same⟩
theorem repr_chars : ∀ c ∈ L36c, Builtin.Str.reprChar 39 c = [c] ∧ c ≠ 39 := by decide +kernel
theorem repr_plain {t : List Nat} (h : ∀ c ∈ t, c ∈ L36c) : reprText (S t) = S (39 :: (t ++ [39])) := by
  have hq : reprQuote (S t) = 39 := by
    unfold reprQuote
    have : (S t).cps.contains 39 = false := by
      cases z : (S t).cps.contains 39 with
      | false => rfl
      | true =>
        have h1 : 39 ∈ (S t).cps := by simpa using z
        have h2 : (39 : Nat) ∈ t := Array.mem_toList_iff.mpr h1
        exact absurd rfl (repr_chars 39 (h 39 h2)).2
    rw [this]
    rfl
  unfold reprText
  rw [hq]
  have hf : ∀ (l : List Nat) (acc : Array Nat), (∀ c ∈ l, c ∈ L36c) → l.foldl (fun out c => out ++ (Builtin.Str.reprChar 39 c).toArray) acc = acc ++ l.toArray := by
    intro l
    induction l with
    | nil => intro acc _; simp
    | cons c l ih =>
      intro acc hl
      rw [List.foldl_cons, ih _ (fun d hd => hl d (List.mem_cons_of_mem _ hd)), (repr_chars c (hl c List.mem_cons_self)).1]
      simp
  have hg := hf t #[39] h
  have e : (S t).cps.foldl (fun out c => out ++ (Builtin.Str.reprChar 39 c).toArray) #[39] = #[39] ++ t.toArray := by
    rw [← Array.foldl_toList]
    exact hg
  rw [e]
  have e2 : ((#[39] ++ t.toArray).push 39) = (39 :: (t ++ [39])).toArray := by simp
  rw [e2]
section
variable {K : PySem.W.Frag} {σ : L2.St} {H : Hp} {ta tb te tl : TE} {x y z v : V} {D : Ends} {tu tz : TS}
theorem ev_reprS {t : List Nat} (ha : Ev ta σ H (.str (S t))) (hz : t.length ≤ 1000) (h : ∀ c ∈ t, c ∈ L36c) : Ev (tCB (fun xs H Q => (∃ y : Str, xs = [.str y] ∧ (reprText y).length ≤ sizeLine ∧ Q (.str (reprText y)) H) ∨ ∃ i : Int, xs = [.int i] ∧ i.natAbs.log2 < 1920 ∧ Q (.str (toString i)) H) (tCons ta tNil)) σ H (.str (S (39 :: (t ++ [39])))) := fun H1 e Q q =>
  ha H1 e _ fun H2 e2 => .inl ⟨S t, rfl, by
    rw [repr_plain h, S_len, List.length_cons, List.length_append, sizeLine_eq]
    show t.length + 1 + 1 ≤ _
    omega, by
    rw [repr_plain h]
    exact q H2 e2⟩
end
def A7 : List Int := [12, 36, 36, 36, 36, 36, 36]
theorem okA7 : OkSizes A7 := ⟨by decide, by decide⟩
theorem okSF : OkSizes SF := ⟨by decide, by decide⟩
theorem okRW : OkSizes [1001, 400, 400, 400] := ⟨by decide, by decide⟩
theorem okSB : OkSizes SB := ⟨by decide, by decide⟩
theorem pos_ok8 {ss : List Int} (h : OkSizes ss) : ∀ s ∈ ss, 0 < s := fun s hs => (h.2 s hs).1
section
variable {P : Program} {w : World} {K : PySem.W.Frag} {mg : Str → Option Value} {base : Heap}
variable {CG CC CB : Addr}
theorem kd_tw (D : Dn P w K mg base 3 "text_with" s_text_with ["alphabet", "length", "count"] spTw) : Kd P w K mg base 3 "text_with" 0 ["count", "length", "alphabet"] (fun _ zs => zs.reverse) spTw :=
  kd_of D 0 ["count", "length", "alphabet"] (fun _ ws => ws.reverse) (fun _ zs => zs.reverse) (fun _ _ _ _ _ _ us ws h1 h2 => match us, ws, h1, h2 with | [], [_, _, _], _, _ => rfl) (fun _ r => by
    have : ∀ {zs : List V} {ws : List Value}, Vals zs ws → Vals zs.reverse ws.reverse := by
      intro zs ws r
      induction r with
      | nil => exact .nil
      | cons a r ih => rw [List.reverse_cons, List.reverse_cons]; exact ih.append (.cons a .nil)
    exact this r)
abbrev s_law : Stmt := top 35
abbrev N_law : List Str := ["script", "abc", "far", "row", "least", "most", "middle", "first", "other", "many", "bad"]
theorem sc_law : FnScope N_law ["script"] (defScope s_law) := ⟨rfl, rfl, rfl, by decide +kernel, rfl, by decide +kernel, by decide +kernel⟩
def spLaw (K : PySem.W.Frag) : Sp := fun vs H Q _ => ∃ (a : Addr) (ns : List Int), vs = [.ref a] ∧ SqL K H a (ns.map V.int) ∧ ∀ H', Q (.bl true) H'
theorem q_forAny {K : PySem.W.Frag} {σ : L2.St} {H : Hp} {tl : TE} {tb : TS} {j : Nat} {D : Ends} {tz : TS} (P : List V → Prop) (h : ∀ Q : VK, (∀ p H2 xs, P xs → H p = none → Ex H H2 → H2 p = some (.lst xs) → Q (.ref p) H2) → tl σ H Q)
    (k : ∀ p H2 xs, P xs → H p = none → Ex H H2 → H2 p = some (.lst xs) → tSeq (tFor (iList K (tC (.ref p))) (gName j) tb) tz D σ H2) : tSeq (tFor (iList K tl) (gName j) tb) tz D σ H := h _ fun p H2 xs a b c d => k p H2 xs a b c d
theorem ok_law (D_law_cell : Dn P w K mg base 1 "_law_cell" s_law_cell ["script", "k"] (spCellF K)) (D_law_digits : Dn P w K mg base 1 "_law_digits" s_law_digits ["cell", "sizes"] (spDigits K)) (D_law_alphabet : Dn P w K mg base 1 "_law_alphabet" s_law_alphabet ["row", "upto"] (spAlp K)) (D_law_far : Dn P w K mg base 1 "_law_far" s_law_far ["base", "row"] (spFr K)) (D_law_least : Dn P w K mg base 1 "_law_least" s_law_least ["far"] spLst) (D_law_greatest : Dn P w K mg base 1 "_law_greatest" s_law_greatest ["base", "far"] spGrt) (D_law_manies : Dn P w K mg base 1 "_law_manies" s_law_manies ["least", "most", "row"] spMan)
    (D_text_with : Dn P w K mg base 3 "text_with" s_text_with ["alphabet", "length", "count"] spTw) (D_law_told : Dn P w K mg base 4 "_law_told" s_law_told ["abc", "far", "many", "least", "most"] spTo) (D_law_bad : Dn P w K mg base 1 "_law_bad" s_law_bad ["abc", "row"] (spBd K)) (D_law_refused : Dn P w K mg base 6 "_law_refused" s_law_refused ["bad", "far", "many"] spRf) (T : TC K mg CG CC) (F : At K mg "law" s_law) : Dn P w K mg base 7 "law" s_law ["script"] (spLaw K) := by
  have D_text_with_count_length_alphabet := kd_tw D_text_with
  refine dn_ok F sc_law (fun _ _ _ _ _ _ us hl => match us, hl with | [_], _ => rfl) (fun vs H Q E h => ?_) (fun f cdv A outer t H vs Q E hr h => ?_)
  · obtain ⟨a, ns, rfl, _⟩ := h; rfl
  · obtain ⟨a, ns, rfl, hS, q⟩ := h
    refine ⟨_, (pss_cons (ps_set (i := 1) sc_law.nd rfl (Or.inl rfl) (pe_dn D_law_alphabet hr (by decide) rfl (pa_cons (pe_dn D_law_digits hr (by decide) rfl (pa_cons (pe_dn D_law_cell hr (by decide) rfl (pa_cons (pv 0) (pa_cons pe_int pa_nil))) (pa_cons (pe_lst (pa_cons pe_int (pa_cons pe_int (pa_cons pe_int (pa_cons pe_int (pa_cons pe_int (pa_cons pe_int (pa_cons pe_int pa_nil)))))))) pa_nil))) (pa_cons pe_int pa_nil))))
      (pss_cons (ps_set (i := 2) sc_law.nd rfl (Or.inl rfl) (pe_dn D_law_far hr (by decide) rfl (pa_cons (pe_callB call_len_str (by rfl) T.len boot_len (pa_cons (pv 1) pa_nil)) (pa_cons (pe_dn D_law_digits hr (by decide) rfl (pa_cons (pe_dn D_law_cell hr (by decide) rfl (pa_cons (pv 0) (pa_cons pe_int pa_nil))) (pa_cons (pe_lst (pa_cons pe_int (pa_cons pe_int (pa_cons pe_int (pa_cons pe_int (pa_cons pe_int (pa_cons pe_int pa_nil))))))) pa_nil))) pa_nil))))
      (pss_cons (ps_set (i := 3) sc_law.nd rfl (Or.inl rfl) (pe_dn D_law_digits hr (by decide) rfl (pa_cons (pe_dn D_law_cell hr (by decide) rfl (pa_cons (pv 0) (pa_cons pe_int pa_nil))) (pa_cons (pe_lst (pa_cons pe_int (pa_cons pe_int (pa_cons pe_int (pa_cons pe_int pa_nil))))) pa_nil))))
      (pss_cons (ps_set (i := 4) sc_law.nd rfl (Or.inl rfl) (pe_dn D_law_least hr (by decide) rfl (pa_cons (pv 2) pa_nil)))
      (pss_cons (ps_set (i := 5) sc_law.nd rfl (Or.inl rfl) (pe_dn D_law_greatest hr (by decide) rfl (pa_cons (pe_callB call_len_str (by rfl) T.len boot_len (pa_cons (pv 1) pa_nil)) (pa_cons (pv 2) pa_nil))))
      (pss_cons (ps_set (i := 6) sc_law.nd rfl (Or.inl rfl) (pe_op op_add (pv 4) (pe_op op_mod (pe_callTy call_int1 (by rfl) T.int_ (by decide +kernel) (pa_cons (pe_ix ix_list (pv 3) pe_int (fun _ _ => rfl)) pa_nil)) (pe_op op_add (pe_op op_sub (pv 5) (pv 4)) pe_int))))
      (pss_cons (ps_set (i := 7) sc_law.nd rfl (Or.inl rfl) (pe_callB call_reprB (by rfl) T.repr (by decide +kernel) (pa_cons (pe_dn D_text_with hr (by decide) rfl (pa_cons (pv 1) (pa_cons (pv 2) (pa_cons (pv 6) pa_nil)))) pa_nil)))
      (pss_cons (ps_set (i := 8) sc_law.nd rfl (Or.inl rfl) (pe_dn D_law_alphabet hr (by decide) rfl (pa_cons (pe_dn D_law_digits hr (by decide) rfl (pa_cons (pe_dn D_law_cell hr (by decide) rfl (pa_cons (pv 0) (pa_cons pe_int pa_nil))) (pa_cons (pe_lst (pa_cons pe_int (pa_cons pe_int (pa_cons pe_int (pa_cons pe_int (pa_cons pe_int (pa_cons pe_int (pa_cons pe_int pa_nil)))))))) pa_nil))) (pa_cons pe_int pa_nil))))
      (pss_cons (ps_if (pt_not (pt_val (pe_dn D_law_told hr (by decide) rfl (pa_cons (pv 8) (pa_cons (pv 2) (pa_cons (pv 6) (pa_cons (pv 4) (pa_cons (pe_dn D_law_greatest hr (by decide) rfl (pa_cons (pe_callB call_len_str (by rfl) T.len boot_len (pa_cons (pv 8) pa_nil)) (pa_cons (pv 2) pa_nil))) pa_nil)))))))) (pss_one (ps_ret pe_bl)) pss_nil)
      (pss_cons (ps_for PassesOwn.never rfl (pi_list (pe_op op_cat (pe_dn D_law_manies hr (by decide) rfl (pa_cons (pv 4) (pa_cons (pv 5) (pa_cons (pe_slice sl_list (pv 3) (po_some pe_int) (po_some pe_int)) pa_nil)))) (pe_lst (pa_cons (pv 6) (pa_cons (pe_ix ix_list (pv 3) pe_int (fun _ _ => rfl)) pa_nil))))) (pg_name (i := 9) sc_law.nd rfl (Or.inl rfl))
        (pss_one (ps_if (pt_not (pt_val (pe_dn D_law_told hr (by decide) rfl (pa_cons (pv 1) (pa_cons (pv 2) (pa_cons (pv 9) (pa_cons (pv 4) (pa_cons (pv 5) pa_nil)))))))) (pss_one (ps_ret pe_bl)) pss_nil)))
      (pss_cons (ps_set (i := 10) sc_law.nd rfl (Or.inl rfl) (pe_dn D_law_bad hr (by decide) rfl (pa_cons (pv 1) (pa_cons (pe_dn D_law_digits hr (by decide) rfl (pa_cons (pe_dn D_law_cell hr (by decide) rfl (pa_cons (pv 0) (pa_cons pe_int pa_nil))) (pa_cons (pe_op op_cat (pe_lst (pa_cons pe_int (pa_cons pe_int (pa_cons pe_int (pa_cons pe_int pa_nil))))) (pe_op op_rep (pe_lst (pa_cons pe_int pa_nil)) pe_int)) pa_nil))) pa_nil))))
      (pss_cons (ps_if (PW.pt (pw_or (pt_not (pt_val (pe_dn D_law_refused hr (by decide) rfl (pa_cons (pv 10) (pa_cons (pv 2) (pa_cons (pv 6) pa_nil)))))) (pw_or1 (pt_not (pt_val (pe_dn D_law_refused hr (by decide) rfl (pa_cons (pv 10) (pa_cons (pv 2) (pa_cons (pe_op op_add (pv 5) pe_int) pa_nil))))))))) (pss_one (ps_ret pe_bl)) pss_nil)
      (pss_one (ps_ret (pe_cmpR op_eq (pe_callB call_reprB (by rfl) T.repr (by decide +kernel) (pa_cons (pe_kd D_text_with_count_length_alphabet hr (by decide) rfl (pk_cons (pv 6) (pk_cons (pv 2) (pk_cons (pv 1) pk_nil)))) pa_nil)) (pv 7) (nomark _)))))))))))))))), ?_⟩
    have cell : ∀ {H' : Hp}, Ex H H' → ∀ (k : Nat), k ≤ 100 → ∀ {σ : L2.St}, σ[0]? = some (some (.ref a)) → Ev (tCall (spCellF K) [] E0 (tCons (tVar 0) (tCons (tC (.int (k : Int))) tNil))) σ H' (.int (cellF ns (k : Int))) := fun e k hk σ hs => ev_call (ea_cons (ev_var hs) (ea_cons ev_c ea_nil)) (sv_cell (K := K) (ex_l e hS) (by omega) (by omega))
    have w0 : Within (digitsF (cellF ns ((0 : Nat) : Int)) A7) A7 := digits_in _ _ (pos_ok8 okA7)
    refine q_callLV (el_call2 (xs := A7.map V.int) (cell (Ex.refl H) 0 (by decide) rfl) (el_lst (ea_cons ev_c (ea_cons ev_c (ea_cons ev_c (ea_cons ev_c (ea_cons ev_c (ea_cons ev_c (ea_cons ev_c ea_nil))))))) (by show 7 ≤ 100000; decide)) (fun p H1 hp e => sl_digits (ss := A7) (sq_of hp) okA7)) ev_c fun p0 H1 e1 hp0 => ?_
    refine ⟨p0, _, rfl, sq_of hp0, by rw [w0.len]; decide, (w0.get 0 (by decide)).1, (w0.get 0 (by decide)).2, fun abc hA H2 e2 => ?_⟩
    have h1 := hA.1
    have h6 := hA.2.1
    have e02 := e1.trans e2
    have w1 : Within (digitsF (cellF ns ((1 : Nat) : Int)) SF) SF := digits_in _ _ (pos_ok8 okSF)
    refine q_callVL (ev_lenSS (ev_var rfl) (by omega)) (el_call2 (xs := SF.map V.int) (cell e02 1 (by decide) rfl) (el_lst (ea_cons ev_c (ea_cons ev_c (ea_cons ev_c (ea_cons ev_c (ea_cons ev_c (ea_cons ev_c ea_nil)))))) (by show 6 ≤ 100000; decide)) (fun p H1 hp e => sl_digits (ss := SF) (sq_of hp) okSF)) fun p1 H3 e3 hp1 => ?_
    refine ⟨abc.length, p1, _, rfl, h6, sq_of hp1, w1, fun far hf H4 e4 => ?_⟩
    have e04 := (e02.trans e3).trans e4
    have w2 : Within (digitsF (cellF ns ((2 : Nat) : Int)) [1001, 400, 400, 400]) [1001, 400, 400, 400] := digits_in _ _ (pos_ok8 okRW)
    refine q_asgL (el_call2 (xs := ([1001, 400, 400, 400] : List Int).map V.int) (cell e04 2 (by decide) rfl) (el_lst (ea_cons ev_c (ea_cons ev_c (ea_cons ev_c (ea_cons ev_c ea_nil)))) (by show 4 ≤ 100000; decide)) (fun p H1 hp e => sl_digits (ss := [1001, 400, 400, 400]) (sq_of hp) okRW)) fun pr H5 npr e5 hpr => ?_
    have e05 := e04.trans e5
    obtain ⟨d0, d1, d2, d3, hd⟩ : ∃ d0 d1 d2 d3 : Int, digitsF (cellF ns ((2 : Nat) : Int)) [1001, 400, 400, 400] = [d0, d1, d2, d3] := by
      have hl := w2.len
      match h : digitsF (cellF ns ((2 : Nat) : Int)) [1001, 400, 400, 400], hl with
      | [d0, d1, d2, d3], _ => exact ⟨d0, d1, d2, d3, rfl⟩
    rw [hd] at hpr w2
    have hd0 := (w2.get 0 (by decide)).1
    refine q_asg (ev_call (ea_cons (ev_var rfl) ea_nil) (sv_lst hf)) fun H6 e6 => ?_
    refine q_asg (ev_call (ea_cons (ev_lenSS (ev_var rfl) (by omega)) (ea_cons (ev_var rfl) ea_nil)) (sv_grt h1 h6 hf)) fun H7 e7 => ?_
    have hlm : grF 1 far ≤ grF abc.length far := gr_base h1 (grF_spec (Nat.le_refl 1)) (grF_spec h1)
    have hmf : grF abc.length far ≤ far := grF_le h1
    obtain ⟨mid, hmid, hm1, hm2⟩ : ∃ mid : Nat, ((grF 1 far : Nat) : Int) + d3 % (((grF abc.length far : Nat) : Int) - ((grF 1 far : Nat) : Int) + 1) = (mid : Int) ∧ grF 1 far ≤ mid ∧ mid ≤ grF abc.length far := by
      have m2 := Int.emod_nonneg d3 (show (((grF abc.length far : Nat) : Int) - ((grF 1 far : Nat) : Int) + 1) ≠ 0 by omega)
      have m3 := Int.emod_lt_of_pos d3 (show (0 : Int) < ((grF abc.length far : Nat) : Int) - ((grF 1 far : Nat) : Int) + 1 by omega)
      exact ⟨(((grF 1 far : Nat) : Int) + d3 % (((grF abc.length far : Nat) : Int) - ((grF 1 far : Nat) : Int) + 1)).toNat, by omega, by omega, by omega⟩
    have hpr7 := e7 _ _ (e6 _ _ hpr)
    refine q_asg (v := .int (mid : Int)) (ev_is (ev_op (ev_var rfl) (ev_op (ev_int (ev_op (ev_var rfl) ev_c (rv_ixL (K := K) (sq_of hpr7) rfl))) (ev_op (ev_op (ev_var rfl) (ev_var rfl) rv_I0) ev_c rv_I0) (rv_I (by show (0 : Int) < _; omega))) rv_I0) (congrArg V.int hmid)) fun H8 e8 => ?_
    have e08 := ((e05.trans e6).trans e7).trans e8
    have ok := tw_good hA.nd8 h1 hm1 hm2
    have ev : twV abc far mid = .str (S (twF abc far mid)) := if_pos ⟨hm1, hm2⟩
    have fL : ∀ c ∈ twF abc far mid, c ∈ L36c := fun c hc => hA.2.2.1 c (ok.sub c hc)
    have svt : ∀ {H : Hp}, SpV spTw [.str (S abc), .int (far : Int), .int (mid : Int)] H (.str (S (twF abc far mid))) := fun {H} => by
      have := sv_tw (many := mid) (H := H) hA hf
      rwa [ev] at this
    refine q_asg (v := .str (S (39 :: (twF abc far mid ++ [39])))) (ev_reprS (ev_call (ea_cons (ev_var rfl) (ea_cons (ev_var rfl) (ea_cons (ev_var rfl) ea_nil))) svt) (by rw [ok.len]; omega) fL) fun H9 e9 => ?_
    have e09 := e08.trans e9
    have w3 : Within (digitsF (cellF ns ((3 : Nat) : Int)) A7) A7 := digits_in _ _ (pos_ok8 okA7)
    refine q_callLV (el_call2 (xs := A7.map V.int) (cell e09 3 (by decide) rfl) (el_lst (ea_cons ev_c (ea_cons ev_c (ea_cons ev_c (ea_cons ev_c (ea_cons ev_c (ea_cons ev_c (ea_cons ev_c ea_nil))))))) (by show 7 ≤ 100000; decide)) (fun p H1 hp e => sl_digits (ss := A7) (sq_of hp) okA7)) ev_c fun p3 H10 e10 hp3 => ?_
    refine ⟨p3, _, rfl, sq_of hp3, by rw [w3.len]; decide, (w3.get 0 (by decide)).1, (w3.get 0 (by decide)).2, fun oth hO H11 e11 => ?_⟩
    have e011 := (e09.trans e10).trans e11
    refine q_when (b := !true) (et_not (et_B (ev_call (ea_cons (ev_var rfl) (ea_cons (ev_var rfl) (ea_cons (ev_var rfl) (ea_cons (ev_var rfl) (ea_cons (ev_call (ea_cons (ev_lenSS (ev_var rfl) (by have := hO.2.1; omega)) (ea_cons (ev_var rfl) ea_nil)) (sv_grt hO.1 hO.2.1 hf)) ea_nil))))) (fun H12 e12 Q1 q1 _ => ⟨oth, far, mid, rfl, hO, hf, q1⟩)))) (fun hb => absurd hb (by decide)) fun _ H12 e12 => ?_
    have e012 := e011.trans e12
    have hpr12 : H12 pr = some (.lst ([d0, d1, d2, d3].map V.int)) := (((e8.trans e9).trans e10).trans (e11.trans e12)) _ _ hpr7
    obtain ⟨n0, hn0⟩ : ∃ n0 : Nat, d0 = (n0 : Int) := ⟨d0.toNat, by have : (0:Int) ≤ d0 := hd0; omega⟩
    refine q_forAny (fun xs => ∃ ms : List Nat, xs = nV ms) (fun Q1 hQ => ?_) fun pl H13 xs hxs npl e13 hpl => ?_
    · have hsl := el_sl (K := K) (te := tVar 3) (tl := tPart (tC (.int 1))) (th := tPart (tC (.int 3))) (σ := [some (.ref a), some (.str (S abc)), some (.int (far : Int)), some (.ref pr), some (.int (grF 1 far : Nat)), some (.int (grF abc.length far : Nat)), some (.int (mid : Int)), some (.str (S (39 :: (twF abc far mid ++ [39])))), some (.str (S oth)), none, none]) (H := H12) (lo := some 1) (hi := some 3) (ev_var rfl) (eo_some ev_c) (eo_some ev_c) (sq_of hpr12)
      refine ⟨_, rfl, _, rfl, hsl H12 (Ex.refl H12) _ fun ps H13 nps e13 hps => ⟨_, _, ps, d1, d2, rfl, hlm, by omega, hps, fun ms hms pm H14 npm e14 hpm => ?_⟩⟩
      exact (el_catW (ta := tC (.ref pm)) ev_c hpm (el_lst (ea_cons (ev_var (i := 6) rfl) (ea_cons (ev_op (ev_var (i := 3) rfl) ev_c (rv_ixL (K := K) (sq_of (e14 _ _ (e13 _ _ hpr12))) rfl)) ea_nil)) (by show 2 ≤ 100000; decide)) (by show (List.map _ _).length + 2 ≤ _; rw [List.length_map]; omega)) H14 (Ex.refl H14) Q1 fun p H15 np e15 hp => hQ p H15 _ ⟨ms ++ [mid, n0], by rw [hn0]; unfold nV; rw [List.map_append]; rfl⟩ (fresh_back (e13.trans e14) np) ((e13.trans e14).trans e15) hp
    · obtain ⟨ms, rfl⟩ := hxs
      refine q_forLn (K := K) (a := pl) (xs := nV ms) ev_c (sq_of hpl) (fun i σ' H' => ∃ x : Option V, σ' = [some (.ref a), some (.str (S abc)), some (.int (far : Int)), some (.ref pr), some (.int (grF 1 far : Nat)), some (.int (grF abc.length far : Nat)), some (.int (mid : Int)), some (.str (S (39 :: (twF abc far mid ++ [39])))), some (.str (S oth)), x, none] ∧ Ex H13 H')
        (fun H14 e14 => ⟨none, rfl, e14⟩) (fun i σ' H' _ ⟨_, _, e⟩ => sq_of (e _ _ hpl)) ?_ ?_
      · rintro i x σ' H' hi ⟨x0, rfl, e⟩
        obtain ⟨m, rfl⟩ : ∃ m : Nat, x = .int (m : Int) := by
          obtain ⟨m, _, rfl⟩ := List.mem_map.mp (List.mem_of_getElem? hi)
          exact ⟨m, rfl⟩
        exact s_when (b := !true) (et_not (et_B (ev_call (ea_cons (ev_var rfl) (ea_cons (ev_var rfl) (ea_cons (ev_var rfl) (ea_cons (ev_var rfl) (ea_cons (ev_var rfl) ea_nil))))) (fun H14 e14 Q1 q1 _ => ⟨abc, far, m, rfl, hA, hf, q1⟩)))) (fun hb => absurd hb (by decide)) fun _ H14 e14 => ⟨_, rfl, e.trans e14⟩
      · rintro σ' H14 ⟨x, rfl, e14⟩
        have e014 := (e012.trans e13).trans e14
        have w4 : Within (digitsF (cellF ns ((4 : Nat) : Int)) SB) SB := digits_in _ _ (pos_ok8 okSB)
        have hSBV : SB.map V.int = [V.int 14, V.int 30, V.int 11, V.int 9] ++ (List.replicate (Int.toNat 8) [V.int 95]).flatten := by decide +kernel
        refine q_callVL (ev_var rfl) (el_call2 (xs := SB.map V.int) (cell e014 4 (by decide) rfl) (by
          rw [hSBV]
          exact el_cat (el_lst (ea_cons ev_c (ea_cons ev_c (ea_cons ev_c (ea_cons ev_c ea_nil)))) (by show 4 ≤ 100000; decide)) (el_rep (el_lst (ea_cons ev_c ea_nil) (by show 1 ≤ 100000; decide)) (fun _ _ => ev_c) (by decide) (by decide) (by decide)) (by decide)) (fun p H1 hp e => sl_digits (ss := SB) (sq_of hp) okSB)) fun p4 H15 e15 hp4 => ?_
        refine ⟨abc, p4, _, rfl, hA, sq_of hp4, w4, fun t ht htc H16 e16 => ?_⟩
        refine q_when (b := !true || !true) (et_or (et_not (et_B (ev_call (ea_cons (ev_var rfl) (ea_cons (ev_var rfl) (ea_cons (ev_var rfl) ea_nil))) (fun H17 e17 Q1 q1 _ => ⟨t, _, _, rfl, ht, htc, q1⟩)))) fun _ => et_not (et_B (ev_call (ea_cons (ev_var rfl) (ea_cons (ev_var rfl) (ea_cons (ev_op (ev_var rfl) ev_c rv_I0) ea_nil))) (fun H17 e17 Q1 q1 _ => ⟨t, _, _, rfl, ht, htc, q1⟩)))) (fun hb => absurd hb (by decide)) fun _ H17 e17 => ?_
        refine s_ret (v := .bl true) (ev_is (ev_op (ev_reprS (ev_callN (vs := []) (zs := [.int (mid : Int), .int (far : Int), .str (S abc)]) ea_nil (ea_cons (ev_var rfl) (ea_cons (ev_var rfl) (ea_cons (ev_var rfl) ea_nil))) rfl rfl svt) (by rw [ok.len]; omega) fL) (ev_var rfl) (rv_eq rfl)) (congrArg V.bl (decide_eq_true rfl))) fun H18 e18 => q H18
end
end My

set_option Elab.async false
set_option linter.all false
set_option maxRecDepth 100000
set_option maxHeartbeats 4000000
namespace My
open PySem PySem.Spec PyProof.Rows L2 Evl
/-! ### what the written part says of the own error classes -/
def asE (g : Addr → Option Obj) : Nat → List Addr
  | 0 => [mainGlobals, cStatics]
  | n + 1 => He.growD g (asE g n)
structure ErrD where
  x : Str
  fld : Str
  qual : Str
  params : Arguments
  body : List Stmt
  scope : Scope
abbrev FnC : Type := Option (Str × Str × Arguments × FuncBody × Scope × Addr × List Str × Addr)
def fnC (K : PySem.W.Frag) (x : Str) : FnC := match K.lookup (He.ma K (He.ga K x) "__init__") with
  | some ⟨_, _, .func fd, _⟩ => some (fd.name, fd.qualname, fd.params, fd.body, fd.scope, fd.globals, fd.closure.map (·.1), fd.builtins)
  | _ => none
def ErrD.val (d : ErrD) : FnC := some ("__init__", d.qual, d.params, .stmts d.body, d.scope, mainGlobals, ["__class__"], builtinsNs)
def oexB (K : PySem.W.Frag) (C : Addr) : Bool := match K.lookup C with
  | some ⟨.type "type", _, .cls cd, sl⟩ => (match cd.mro, sl.toList with
    | .ref C' :: bm, [_, _, _, _, some (.builtin n), _] => C' == C && (n == "ValueError.__new__" && (!cd.hasDel && (cd.hasDict && HandSPX.refsVE bm)))
    | _, _ => false)
  | _ => false
theorem oexB_ok {K : PySem.W.Frag} {C : Addr} (q : oexB K C = true) : ∃ nm q N bs bm sn sub ab col dd k0 k1 k2 k3 k5, K.lookup C = some (excClassObj nm q C N bs bm true sn sub ab col dd k0 k1 k2 k3 k5 "ValueError.__new__") ∧ HandSPX.refsVE bm = true := by
  unfold oexB at q
  split at q
  · rename_i dd cd sl ho
    split at q
    · rename_i C' bm k0 k1 k2 k3 n k5 hm hs
      simp only [Bool.and_eq_true, beq_iff_eq, Bool.not_eq_true'] at q
      obtain ⟨rfl, rfl, hdel, hdct, ht⟩ := q
      obtain ⟨nm, bs, mro, ns, qn, hd, sn, sub, ab, col, del⟩ := cd
      dsimp only at hm hdel hdct
      subst hm hdel hdct
      have hsl : sl = #[k0, k1, k2, k3, some (.builtin "ValueError.__new__"), k5] := by
        obtain ⟨l⟩ := sl
        simp only at hs
        rw [hs]
      subst hsl
      exact ⟨nm, qn, ns, bs, bm, sn, sub, ab, col, dd, k0, k1, k2, k3, k5, ho, ht⟩
    · cases q
  · cases q
def alongB (K : PySem.W.Frag) (C : Addr) : Bool := match PySem.W.clsIn K C with
  | some cd => He.eqO (PySem.W.alongIn K "__init__" ((cd.mro.dropWhile (· != .ref C)).drop 1)) (some (some (.builtin "ValueError.__init__")))
  | none => false
theorem alongB_ok {K : PySem.W.Frag} {C : Addr} (q : alongB K C = true) : ∃ cd, PySem.W.clsIn K C = some cd ∧ PySem.W.alongIn K "__init__" ((cd.mro.dropWhile (· != .ref C)).drop 1) = some (some (.builtin "ValueError.__init__")) := by
  unfold alongB at q
  split at q
  · rename_i cd h
    exact ⟨cd, h, He.eqO_ok q⟩
  · cases q
def cellB (K : PySem.W.Frag) (C : Addr) (cl : List (Str × Addr)) : Bool := match cl with
  | [(_, cc)] => (match K.lookup cc with
    | some ⟨_, _, .cell (some (.ref b)), _⟩ => b == C
    | _ => false)
  | _ => false
def codeB (K : PySem.W.Frag) (qual file : Str) (v : Value) : Bool := match v with
  | .ref c => (match K.lookup c with
    | some ⟨_, _, Data.fields vs, _⟩ => (match (vs[1]? : Option Value), (vs[2]? : Option Value) with
      | some (Value.str q _), some (Value.str f _) => decide (q = qual) && decide (f = file)
      | _, _ => false)
    | _ => false)
  | _ => false
theorem codeB_ok {K : PySem.W.Frag} {qual file : Str} {v : Value} (h : codeB K qual file v = true) : ∃ (c : Addr) (o : Obj) (vs : Array Value) (t1 t2 : Tok), v = .ref c ∧ K.lookup c = some o ∧ o.data = .fields vs ∧ vs[1]? = some (.str qual t1) ∧ vs[2]? = some (.str file t2) := by
  unfold codeB at h
  split at h
  · rename_i c
    split at h
    · rename_i oc od vs sl ho
      split at h
      · rename_i q t1 f t2 h1 h2
        obtain ⟨a, b⟩ := Bool.and_eq_true_iff.mp h
        have a := of_decide_eq_true a
        have b := of_decide_eq_true b
        subst a b
        exact ⟨c, _, vs, t1, t2, rfl, ho, rfl, h1, h2⟩
      · cases h
    · cases h
  · cases h
def excB (K : PySem.W.Frag) (C : Addr) : Bool := He.eqO (PySem.W.findIn K (.ref C) "__class__") (some (some (.builtin "object.__class__"))) && (He.eqO (PySem.W.specialIn K (.builtin "object.__class__") "__get__") (some (some (.builtin "getset_descriptor.__get__"))) && (decide (PySem.W.takesIn K (.builtin "object.__class__") = some true) && decide (PySem.W.mroIn K C (.type "object") = some true)))
def ErrD.ok (K : PySem.W.Frag) (file : Str) (d : ErrD) : Bool :=
  oexB K (He.ga K d.x) && (He.eqO (PySem.W.findIn K (.ref (He.ga K d.x)) "__setattr__") (some (some (.builtin "object.__setattr__"))) && (decide (PySem.W.subIn K (.ref (He.ga K d.x)) (.type "BaseException") = some true) && (decide (PySem.W.typeIn K (.ref (He.ga K d.x)) = some (.type "type")) && (PySem.W.keepIn K (.ref (He.ga K d.x)) &&
  (He.eqO (PySem.W.nsIn K mainGlobals d.x) (some (some (.ref (He.ga K d.x)))) && (He.eqO (PySem.W.findIn K (.ref (He.ga K d.x)) "__init__") (some (some (.ref (He.ma K (He.ga K d.x) "__init__")))) && (decide (PySem.W.typeIn K (.ref (He.ma K (He.ga K d.x) "__init__")) = some (.type "function")) && (He.eqO (PySem.W.findIn K (.ref (He.ga K d.x)) d.fld) (some none) &&
  (decide (PySem.W.subIn K (.ref (He.ga K d.x)) (.type "ValueError") = some true) && (decide (PySem.W.subIn K (.ref (He.ga K d.x)) (.ref (He.ga K d.x)) = some true) && (alongB K (He.ga K d.x) && (He.eqO (PySem.W.nsIn K cStatics (Str.ofString "thirdparty.any")) (some none) && (xfB K (He.ga K d.x) && (excB K (He.ga K d.x) &&
  (match K.lookup (He.ma K (He.ga K d.x) "__init__") with
    | some ⟨_, _, .func fd, _⟩ => decide (fd.defaults = .none) && (cellB K (He.ga K d.x) fd.closure && codeB K d.qual file fd.code)
    | _ => false)))))))))))))))
/-- the facts of one class -/
structure ErrF (prog : Program) (K : PySem.W.Frag) (mg : Str → Option Value) (d : ErrD) : Prop where
  mg_ : mg d.x = some (.ref (He.ga K d.x))
  oex : OexC K (He.ga K d.x)
  xf : XfC K (He.ga K d.x)
  exc : ExcC K (He.ga K d.x)
  no : PySem.W.findIn K (.ref (He.ga K d.x)) d.fld = some none
  iC : PySem.W.findIn K (.ref (He.ga K d.x)) "__init__" = some (some (.ref (He.ma K (He.ga K d.x) "__init__")))
  tI : PySem.W.typeIn K (.ref (He.ma K (He.ga K d.x) "__init__")) = some (.type "function")
  ini : ∃ (c cc : Addr) (oc kV doc pm ct : Value) (od an : Option Addr) (osl : Array (Option Value)), SupC prog K mg (He.ga K d.x) (He.ma K (He.ga K d.x) "__init__") c cc ∧
    K.lookup (He.ma K (He.ga K d.x) "__init__") = some ⟨oc, od, .func (PySem.W.fnX "__init__" d.qual d.params d.body d.scope [("__class__", cc)] .none kV doc pm an (.ref c) ct), osl⟩ ∧ ∃ o vs t, K.lookup c = some o ∧ o.data = .fields vs ∧ vs[1]? = some (.str d.qual t)
theorem errF_of {prog : Program} {K : PySem.W.Frag} {mg : Str → Option Value} {h : Heap} {file : Str} {d : ErrD} (X : K.In h) (G : h.Ns mainGlobals mg) (hs : mg "super" = none) (hp : (prog.main.scope.names.lookup ("super" : Str)).isSome = false) (hf : prog.main.file = file) (e : fnC K d.x = d.val) (c : d.ok K file = true) : ErrF prog K mg d := by
  unfold ErrD.ok at c
  simp only [Bool.and_eq_true] at c
  obtain ⟨c1, c2, c3, c4, c5, c6, c7, c8, c9, c10, c11, c12, c13, c14, c15, c16⟩ := c
  have oex : OexC K (He.ga K d.x) := ⟨oexB_ok c1, He.eqO_ok c2, of_decide_eq_true c3, of_decide_eq_true c4, c5⟩
  have xf := xfB_ok c14
  obtain ⟨b1, b2⟩ := Bool.and_eq_true_iff.mp c15
  obtain ⟨b2, b3⟩ := Bool.and_eq_true_iff.mp b2
  obtain ⟨b3, b4⟩ := Bool.and_eq_true_iff.mp b3
  refine ⟨PySem.W.mg_of X G (He.eqO_ok c6), oex, xf, ⟨xf.ga, xf.gg, xf.exC, xf.hdC, He.eqO_ok b1, He.eqO_ok b2, of_decide_eq_true b3, of_decide_eq_true b4⟩, He.eqO_ok c9, He.eqO_ok c7, of_decide_eq_true c8, ?_⟩
  unfold fnC at e
  cases q : K.lookup (He.ma K (He.ga K d.x) "__init__") with
  | none => rw [q] at e; cases e
  | some o =>
    obtain ⟨oc, od, dt, osl⟩ := o
    rw [q] at e c16
    cases dt with
    | func fd =>
      obtain ⟨n1, n2, n3, n4, n5, n6, n7, n8, n9, n10, n11, n12, n13, n14, n15⟩ := fd
      have e2 : (some (n1, n2, n3, n4, n5, n6, n7.map (·.1), n15) : FnC) = d.val := e
      unfold ErrD.val at e2
      simp only [Option.some.injEq, Prod.mk.injEq] at e2
      obtain ⟨h1, h2, h3, h4, h5, h6, h7, h8⟩ := e2
      have c3' : (decide (n8 = .none) && (cellB K (He.ga K d.x) n7 && codeB K d.qual file n13)) = true := c16
      obtain ⟨k1, k23⟩ := Bool.and_eq_true_iff.mp c3'
      obtain ⟨k22, k3⟩ := Bool.and_eq_true_iff.mp k23
      have k1 := of_decide_eq_true k1
      subst h1 h2 h3 h4 h5 h6 h8 k1
      obtain ⟨cd, o2, vs, t1, t2, rfl, g1, g2, g3, g4⟩ := codeB_ok k3
      match n7, h7, k22 with
      | [(y, cc)], h7, k22 =>
        have ey : y = ("__class__" : Str) := by simpa using h7
        subst ey
        have k4 : (match K.lookup cc with
          | some ⟨_, _, .cell (some (.ref b)), _⟩ => b == He.ga K d.x
          | _ => false) = true := k22
        split at k4
        · rename_i oc3 od3 b3 osl3 ho3
          have eb : b3 = He.ga K d.x := eq_of_beq k4
          subst eb
          exact ⟨cd, cc, oc, n9, n10, n11, n14, od, n12, osl, ⟨oex, hs, hp, ⟨_, ho3, rfl⟩, ⟨o2, vs, file, t2, g1, g2, g4, by rw [hf]; exact beq_self_eq_true _⟩, alongB_ok c12, He.eqO_ok c13, of_decide_eq_true c10, of_decide_eq_true c11⟩, rfl, ⟨o2, vs, t1, g1, g2, g3⟩⟩
        · cases k4
    | _ => cases e
/-! ### the hook -/
abbrev AlE : Type := (He.AlD × Bool) × List FnC
structure SaysEr (fa : List He.Fa) (fn : List He.DefD) (es : List ErrD) (file : Str) (ex : PySem.W.Frag → Bool) (K : PySem.W.Frag) : Prop where
  d : He.SaysD fa fn K
  more : ex K = true
  errs : ∀ e ∈ es, e.ok K file = true
  inis : es.map (fun e => fnC K e.x) = es.map ErrD.val
def obsE (n : Nat) (fa : List He.Fa) (fn : List He.DefD) (es : List ErrD) (file : Str) (ex : PySem.W.Frag → Bool) (g : Addr → Option Obj) : AlE :=
  ((He.obsD fa fn (He.frG g (asE g n)), ex (He.frG g (asE g n)) && es.all fun e => e.ok (He.frG g (asE g n)) file), es.map fun e => fnC (He.frG g (asE g n)) e.x)
def valE (fn : List He.DefD) (es : List ErrD) : AlE := ((He.valD fn, true), es.map ErrD.val)
def hookE (n : Nat) (fa : List He.Fa) (fn : List He.DefD) (es : List ErrD) (file : Str) (ex : PySem.W.Frag → Bool) : PySem.W.Hook where
  α := AlE
  obs := fun s => obsE n fa fn es file ex s.heap.get?
  val := fun _ => valE fn es
  says := fun _ h => ∃ K : PySem.W.Frag, K.In h ∧ SaysEr fa fn es file ex K
  of := fun w s e => ⟨He.frG s.heap.get? (asE s.heap.get? n), He.frG_in, by
    have e1 : He.obsD fa fn (He.frG s.heap.get? (asE s.heap.get? n)) = He.valD fn := congrArg (fun z : AlE => z.1.1) e
    have e2 : (ex (He.frG s.heap.get? (asE s.heap.get? n)) && es.all fun e => e.ok (He.frG s.heap.get? (asE s.heap.get? n)) file) = true := congrArg (fun z : AlE => z.1.2) e
    obtain ⟨a, b⟩ := Bool.and_eq_true_iff.mp e2
    exact ⟨e1, a, fun d hd => List.all_eq_true.mp b d hd, congrArg (fun z : AlE => z.2) e⟩⟩
  keeps := fun _ _ _ ⟨K, hK, c⟩ k => ⟨K, PySem.W.Frag.In.keeps hK k, c⟩
theorem obsE_eq {n : Nat} {fa : List He.Fa} {fn : List He.DefD} {es : List ErrD} {file : Str} {ex : PySem.W.Frag → Bool} {g : Addr → Option Obj} {s : Shared} (h : ∀ a, g a = s.heap.get? a) : obsE n fa fn es file ex g = (hookE n fa fn es file ex).obs s := by
  have e : g = s.heap.get? := funext h
  rw [e] <;> rfl
theorem SaysEr.err {fa : List He.Fa} {fn : List He.DefD} {es : List ErrD} {file : Str} {ex : PySem.W.Frag → Bool} {K : PySem.W.Frag} {h : Heap} {mg : Str → Option Value} {prog : Program} (c : SaysEr fa fn es file ex K) (X : K.In h) (G : h.Ns mainGlobals mg) (hs : mg "super" = none) (hp : (prog.main.scope.names.lookup ("super" : Str)).isSome = false) (hf : prog.main.file = file) (i : Nat) {d : ErrD} (hd : es[i]? = some d) : ErrF prog K mg d := by
  refine errF_of X G hs hp hf ?_ (c.errs d (List.mem_of_getElem? hd))
  have e2 : (es.map fun e => fnC K e.x)[i]? = (es.map ErrD.val)[i]? := by rw [c.inis]
  rw [List.getElem?_map, List.getElem?_map, hd] at e2
  exact Option.some.inj e2
end My

set_option Elab.async false
set_option linter.all false
set_option maxRecDepth 100000
set_option maxHeartbeats 0
namespace My
open PySem PySem.Spec PyProof.Rows L2 Evl
def d_shown : He.DefD := ⟨("_shown", none), "_shown", "_shown", defArgs s_shown, defBody s_shown, defScope s_shown, [], []⟩
def d_is_alphabet : He.DefD := ⟨("is_alphabet", none), "is_alphabet", "is_alphabet", defArgs s_is_alphabet, defBody s_is_alphabet, defScope s_is_alphabet, [], []⟩
def d_check_alphabet : He.DefD := ⟨("check_alphabet", none), "check_alphabet", "check_alphabet", defArgs s_check_alphabet, defBody s_check_alphabet, defScope s_check_alphabet, [], []⟩
def d_shortest_total : He.DefD := ⟨("shortest_total", none), "shortest_total", "shortest_total", defArgs s_shortest_total, defBody s_shortest_total, defScope s_shortest_total, [], []⟩
def d_greatest_count : He.DefD := ⟨("greatest_count", none), "greatest_count", "greatest_count", defArgs s_greatest_count, defBody s_greatest_count, defScope s_greatest_count, [], []⟩
def d_least_count : He.DefD := ⟨("least_count", none), "least_count", "least_count", defArgs s_least_count, defBody s_least_count, defScope s_least_count, [], []⟩
def d_text_with : He.DefD := ⟨("text_with", none), "text_with", "text_with", defArgs s_text_with, defBody s_text_with, defScope s_text_with, [], []⟩
def d_first_texts : He.DefD := ⟨("first_texts", none), "first_texts", "first_texts", defArgs s_first_texts, defBody s_first_texts, defScope s_first_texts, [], []⟩
def d_law_cell : He.DefD := ⟨("_law_cell", none), "_law_cell", "_law_cell", defArgs s_law_cell, defBody s_law_cell, defScope s_law_cell, [], []⟩
def d_law_digits : He.DefD := ⟨("_law_digits", none), "_law_digits", "_law_digits", defArgs s_law_digits, defBody s_law_digits, defScope s_law_digits, [], []⟩
def d_law_alphabet : He.DefD := ⟨("_law_alphabet", none), "_law_alphabet", "_law_alphabet", defArgs s_law_alphabet, defBody s_law_alphabet, defScope s_law_alphabet, [], []⟩
def d_law_cut : He.DefD := ⟨("_law_cut", none), "_law_cut", "_law_cut", defArgs s_law_cut, defBody s_law_cut, defScope s_law_cut, [], []⟩
def d_law_least : He.DefD := ⟨("_law_least", none), "_law_least", "_law_least", defArgs s_law_least, defBody s_law_least, defScope s_law_least, [], []⟩
def d_law_greatest : He.DefD := ⟨("_law_greatest", none), "_law_greatest", "_law_greatest", defArgs s_law_greatest, defBody s_law_greatest, defScope s_law_greatest, [], []⟩
def d_law_far : He.DefD := ⟨("_law_far", none), "_law_far", "_law_far", defArgs s_law_far, defBody s_law_far, defScope s_law_far, [], []⟩
def d_law_manies : He.DefD := ⟨("_law_manies", none), "_law_manies", "_law_manies", defArgs s_law_manies, defBody s_law_manies, defScope s_law_manies, [], []⟩
def d_law_told : He.DefD := ⟨("_law_told", none), "_law_told", "_law_told", defArgs s_law_told, defBody s_law_told, defScope s_law_told, [], []⟩
def d_law_is_alphabet : He.DefD := ⟨("_law_is_alphabet", none), "_law_is_alphabet", "_law_is_alphabet", defArgs s_law_is_alphabet, defBody s_law_is_alphabet, defScope s_law_is_alphabet, [], []⟩
def d_law_bad : He.DefD := ⟨("_law_bad", none), "_law_bad", "_law_bad", defArgs s_law_bad, defBody s_law_bad, defScope s_law_bad, [], []⟩
def d_law_refused : He.DefD := ⟨("_law_refused", none), "_law_refused", "_law_refused", defArgs s_law_refused, defBody s_law_refused, defScope s_law_refused, [], []⟩
def d_law : He.DefD := ⟨("law", none), "law", "law", defArgs s_law, defBody s_law, defScope s_law, [], []⟩
def fn : List He.DefD := [d_shown, d_is_alphabet, d_check_alphabet, d_shortest_total, d_greatest_count, d_least_count, d_text_with, d_first_texts, d_law_cell, d_law_digits, d_law_alphabet, d_law_cut, d_law_least, d_law_greatest, d_law_far, d_law_manies, d_law_told, d_law_is_alphabet, d_law_bad, d_law_refused, d_law]
def e_BadAlphabet : ErrD := ⟨"BadAlphabet", "alphabet", "BadAlphabet.__init__", defArgs s_BadAlphabet_init, defBody s_BadAlphabet_init, defScope s_BadAlphabet_init⟩
def es : List ErrD := [e_BadAlphabet]
def fa : List He.Fa := [.glo "_shown", .glo "is_alphabet", .glo "check_alphabet", .glo "shortest_total", .glo "greatest_count", .glo "least_count", .glo "text_with", .glo "first_texts", .glo "_law_cell", .glo "_law_digits", .glo "_law_alphabet", .glo "_law_cut", .glo "_law_least", .glo "_law_greatest", .glo "_law_far", .glo "_law_manies", .glo "_law_told", .glo "_law_is_alphabet", .glo "_law_bad", .glo "_law_refused", .glo "law", .free "len", .free "int", .free "bool", .free "str", .free "list", .free "tuple", .free "range", .free "max", .free "min", .free "sum", .free "isinstance", .free "sorted", .free "repr", .free "abs", .free "enumerate", .free "super", .free "ValueError", .str "LETTERS" LETS, .int "GREATEST_SIZE" 6, .glo "PressError", .glo "BadAlphabet", .glo "BadLetter", .glo "BadRow", .glo "BadTail", .glo "BadRank", .glo "BadIndex", .glo "TooLarge"]
def FILE : Str := PySem.Challenge.pw_unpressed_k07_text_with_count.main.file
abbrev R : PySem.W.OpenRow := PySem.W.OpenLaw.row PySem.Challenge.rw_unpressed_k07_text_with_count
def exX (K : PySem.W.Frag) : Bool := He.eqO (PySem.W.nsIn K mainGlobals "isqrt") (some (some (.builtin "math.isqrt"))) && (decide (PySem.W.exmOne K (.ref (He.ga K "BadAlphabet")) (.ref (He.ga K "PressError")) = some true) && (decide (PySem.W.kitOne K (.ref (He.ga K "BadAlphabet")) (.type "ValueError") = some true) && decide (PySem.W.kitAny K (.ref (He.ga K "BadAlphabet")) [.ref (He.ga K "BadLetter"), .ref (He.ga K "BadIndex"), .ref (He.ga K "BadRank"), .ref (He.ga K "BadRow"), .ref (He.ga K "BadTail"), .ref (He.ga K "TooLarge")] = some false)))
abbrev hk : PySem.W.Hook := hookE 5 fa fn es FILE exX
def ob (s : PySem.W.SharedT) : AlE := obsE 5 fa fn es FILE exX (HandSHeadRun.getT s)
theorem ob_eq (s : PySem.W.SharedT) : ob s = hk.obs s.abs := obsE_eq (HandSHeadRun.getT_eq s)
abbrev loose : List Str := [("_shown" : Str), ("PressError" : Str), ("BadAlphabet" : Str), ("BadLetter" : Str), ("BadRow" : Str), ("BadTail" : Str), ("BadRank" : Str), ("BadIndex" : Str), ("TooLarge" : Str), ("LETTERS" : Str), ("GREATEST_SIZE" : Str), ("is_alphabet" : Str), ("check_alphabet" : Str), ("shortest_total" : Str), ("greatest_count" : Str), ("least_count" : Str), ("text_with" : Str), ("first_texts" : Str), ("_law_cell" : Str), ("_law_digits" : Str), ("_law_alphabet" : Str), ("_law_cut" : Str), ("_law_least" : Str), ("_law_greatest" : Str), ("_law_far" : Str), ("_law_manies" : Str), ("_law_told" : Str), ("_law_is_alphabet" : Str), ("_law_bad" : Str), ("_law_refused" : Str)]
theorem run (w : World) : HandSHeadRun.RunEqI R (PySem.W.view R.prog [0, 35]) hk ob 4000 loose w := by
  unfold HandSHeadRun.RunEqI
  kernel_rfl
theorem at_of {K : PySem.W.Frag} {mg : Str → Option Value} {h : Heap} (X : K.In h) (G : h.Ns mainGlobals mg) (c : He.SaysD fa fn K) (i : Nat) {x : Str} {st : Stmt} (h1 : fn[i]? = some ⟨(x, none), x, x, defArgs st, defBody st, defScope st, [], []⟩) (h2 : fa[i]? = some (.glo x)) : At K mg x st := by
  obtain ⟨fd, F⟩ := c.def_ i h1
  exact ⟨_, fd, F, He.glo_ok X G (c.fact i h2)⟩
theorem tt_of {K : PySem.W.Frag} {mg : Str → Option Value} {h : Heap} (X : K.In h) (G : h.Ns mainGlobals mg) (c : He.SaysD fa fn K) : TT mg := ⟨He.free_ok X G (c.fact 21 (f := .free "len") rfl), He.free_ok X G (c.fact 22 (f := .free "int") rfl), He.free_ok X G (c.fact 23 (f := .free "bool") rfl), He.free_ok X G (c.fact 24 (f := .free "str") rfl), He.free_ok X G (c.fact 25 (f := .free "list") rfl), He.free_ok X G (c.fact 26 (f := .free "tuple") rfl), He.free_ok X G (c.fact 27 (f := .free "range") rfl), He.free_ok X G (c.fact 28 (f := .free "max") rfl), He.free_ok X G (c.fact 29 (f := .free "min") rfl), He.free_ok X G (c.fact 30 (f := .free "sum") rfl), He.free_ok X G (c.fact 31 (f := .free "isinstance") rfl), He.free_ok X G (c.fact 32 (f := .free "sorted") rfl), He.free_ok X G (c.fact 33 (f := .free "repr") rfl), He.free_ok X G (c.fact 34 (f := .free "abs") rfl), He.free_ok X G (c.fact 35 (f := .free "enumerate") rfl)⟩
theorem tc_of {K : PySem.W.Frag} {mg : Str → Option Value} {h : Heap} (X : K.In h) (G : h.Ns mainGlobals mg) (c : He.SaysD fa fn K) : TC K mg (He.ga K "Growth") (He.ga K "Cut") where
  toTT := tt_of X G c
  gLETTERS := by
    obtain ⟨t, e⟩ := He.str_ok X G (c.fact 38 (f := .str "LETTERS" LETS) rfl)
    exact ⟨_, e, ⟨t, rfl⟩⟩
  gGREATEST_SIZE := by
    obtain ⟨t, e⟩ := He.int_ok X G (c.fact 39 (f := .int "GREATEST_SIZE" 6) rfl)
    exact ⟨_, e, ⟨t, rfl⟩⟩
theorem facts {P : Program} {w : World} {K : PySem.W.Frag} {h : Heap} {mg : Str → Option Value} {f : Addr} (X : K.In h) (G : h.Ns mainGlobals mg) (hp : (P.main.scope.names.lookup ("super" : Str)).isSome = false) (hf : P.main.file = FILE) (hfa : mg ("law" : Str) = some (.ref f)) (cx : SaysEr fa fn es FILE exX K) :
    ∃ fd : FuncData, (∀ (s : Shared) (v : Value), BindsTo s fd ⟨[v], []⟩ [("script", v)]) ∧ ∀ base : Heap, K.In base → base.Ns mainGlobals mg → FnOk P w K mg base CX0 7 f fd ["script"] (spLaw K) := by
  have c := cx.d
  have A_shown : At K mg "_shown" s_shown := at_of X G c 0 rfl rfl
  have A_is_alphabet : At K mg "is_alphabet" s_is_alphabet := at_of X G c 1 rfl rfl
  have A_check_alphabet : At K mg "check_alphabet" s_check_alphabet := at_of X G c 2 rfl rfl
  have A_shortest_total : At K mg "shortest_total" s_shortest_total := at_of X G c 3 rfl rfl
  have A_greatest_count : At K mg "greatest_count" s_greatest_count := at_of X G c 4 rfl rfl
  have A_least_count : At K mg "least_count" s_least_count := at_of X G c 5 rfl rfl
  have A_text_with : At K mg "text_with" s_text_with := at_of X G c 6 rfl rfl
  have A_first_texts : At K mg "first_texts" s_first_texts := at_of X G c 7 rfl rfl
  have A_law_cell : At K mg "_law_cell" s_law_cell := at_of X G c 8 rfl rfl
  have A_law_digits : At K mg "_law_digits" s_law_digits := at_of X G c 9 rfl rfl
  have A_law_alphabet : At K mg "_law_alphabet" s_law_alphabet := at_of X G c 10 rfl rfl
  have A_law_cut : At K mg "_law_cut" s_law_cut := at_of X G c 11 rfl rfl
  have A_law_least : At K mg "_law_least" s_law_least := at_of X G c 12 rfl rfl
  have A_law_greatest : At K mg "_law_greatest" s_law_greatest := at_of X G c 13 rfl rfl
  have A_law_far : At K mg "_law_far" s_law_far := at_of X G c 14 rfl rfl
  have A_law_manies : At K mg "_law_manies" s_law_manies := at_of X G c 15 rfl rfl
  have A_law_told : At K mg "_law_told" s_law_told := at_of X G c 16 rfl rfl
  have A_law_is_alphabet : At K mg "_law_is_alphabet" s_law_is_alphabet := at_of X G c 17 rfl rfl
  have A_law_bad : At K mg "_law_bad" s_law_bad := at_of X G c 18 rfl rfl
  have A_law_refused : At K mg "_law_refused" s_law_refused := at_of X G c 19 rfl rfl
  have A_law : At K mg "law" s_law := at_of X G c 20 rfl rfl
  have T : TC K mg (He.ga K "Growth") (He.ga K "Cut") := tc_of X G c
  have Tc := T
  have TT := Tc.toTT
  have Sup : mg "super" = none := He.free_ok X G (c.fact 36 (f := .free "super") rfl)
  have TVE : mg "ValueError" = none := He.free_ok X G (c.fact 37 (f := .free "ValueError") rfl)
  have G_PressError : mg "PressError" = some (.ref (He.ga K "PressError")) := He.glo_ok X G (c.fact 40 (f := .glo "PressError") rfl)
  have G_BadAlphabet : mg "BadAlphabet" = some (.ref (He.ga K "BadAlphabet")) := He.glo_ok X G (c.fact 41 (f := .glo "BadAlphabet") rfl)
  have G_BadLetter : mg "BadLetter" = some (.ref (He.ga K "BadLetter")) := He.glo_ok X G (c.fact 42 (f := .glo "BadLetter") rfl)
  have G_BadRow : mg "BadRow" = some (.ref (He.ga K "BadRow")) := He.glo_ok X G (c.fact 43 (f := .glo "BadRow") rfl)
  have G_BadTail : mg "BadTail" = some (.ref (He.ga K "BadTail")) := He.glo_ok X G (c.fact 44 (f := .glo "BadTail") rfl)
  have G_BadRank : mg "BadRank" = some (.ref (He.ga K "BadRank")) := He.glo_ok X G (c.fact 45 (f := .glo "BadRank") rfl)
  have G_BadIndex : mg "BadIndex" = some (.ref (He.ga K "BadIndex")) := He.glo_ok X G (c.fact 46 (f := .glo "BadIndex") rfl)
  have G_TooLarge : mg "TooLarge" = some (.ref (He.ga K "TooLarge")) := He.glo_ok X G (c.fact 47 (f := .glo "TooLarge") rfl)
  have EF_BadAlphabet : ErrF P K mg e_BadAlphabet := cx.err X G Sup hp hf 0 rfl
  obtain ⟨f0, fd, F, hm⟩ := A_law.ex
  have e := hfa.symm.trans hm
  cases e
  have b := FunD.bindsA (ps := ["script"]) F fun _ _ _ _ _ _ us hl => match us, hl with | [_], _ => rfl
  refine ⟨fd, fun s v => b s [v] rfl, fun base _ _ => ?_⟩
  obtain ⟨x1, x2⟩ := Bool.and_eq_true_iff.mp cx.more
  obtain ⟨x2, x3⟩ := Bool.and_eq_true_iff.mp x2
  obtain ⟨x3, x4⟩ := Bool.and_eq_true_iff.mp x3
  have TI : mg "isqrt" = some (.builtin "math.isqrt") := PySem.W.mg_of X G (He.eqO_ok x1)
  have D3 := ok_is_alphabet (P := P) (w := w) (base := base) Tc A_is_alphabet
  have D4 := ok_check_alphabet D3 A_check_alphabet
  have DS := ok_shown (P := P) (w := w) (base := base) TT A_shown
  have TB : ErrC P w K mg base 2 "BadAlphabet" (He.ga K "BadAlphabet") "alphabet" ShowOk := ⟨EF_BadAlphabet.oex, EF_BadAlphabet.mg_, by
    obtain ⟨c1, c2, oc, kV, doc, pm, ct, od, an, osl, SC, lk, hcr⟩ := EF_BadAlphabet.ini
    exact ⟨_, _, ["self", "alphabet"], EF_BadAlphabet.iC, EF_BadAlphabet.tI, init_BadAlphabet DS SC lk hcr EF_BadAlphabet.no, .all fun us hl => match us, hl with | [_, _], _ => rfl⟩⟩
  have X8 : Ex8 K mg (He.ga K "BadAlphabet") (He.ga K "PressError") (He.ga K "BadLetter") (He.ga K "BadIndex") (He.ga K "BadRank") (He.ga K "BadRow") (He.ga K "BadTail") (He.ga K "TooLarge") := ⟨G_PressError, G_BadAlphabet, G_BadLetter, G_BadIndex, G_BadRank, G_BadRow, G_BadTail, G_TooLarge, TVE, EF_BadAlphabet.xf, EF_BadAlphabet.exc, EF_BadAlphabet.no, of_decide_eq_true x2, of_decide_eq_true x3, of_decide_eq_true x4⟩
  have B1 := ok_is_alphabet_bad (P := P) (w := w) (base := base) Tc A_is_alphabet
  have B2 := ok_check_alphabet_bad B1 TB A_check_alphabet
  have B3 := ok_text_with_bad B2 A_text_with
  have P1 := ok_first_texts (P := P) (w := w) (base := base) TT A_first_texts
  have P2 := ok_greatest_count (P := P) (w := w) (base := base) TI A_greatest_count
  have P4 := ok_least_count (P := P) (w := w) (base := base) TI A_least_count
  have P5 := ok_shortest_total (P := P) (w := w) (base := base) A_shortest_total
  have P3 := ok_text_with D4 P1 P2 P4 P5 TT A_text_with
  have L2' := ok_law_cell (P := P) (w := w) (base := base) TT A_law_cell
  have L3 := ok_law_digits (P := P) (w := w) (base := base) TT A_law_digits
  have L4 := ok_law_alphabet (P := P) (w := w) (base := base) TT A_law_alphabet
  have L5 := ok_law_far (P := P) (w := w) (base := base) TT A_law_far
  have LC := ok_law_cut (P := P) (w := w) (base := base) Tc A_law_cut
  have L6 := ok_law_least (P := P) (w := w) (base := base) TT A_law_least
  have L6b := ok_law_greatest (P := P) (w := w) (base := base) TT A_law_greatest
  have L6c := ok_law_manies (P := P) (w := w) (base := base) TT A_law_manies
  have L7 := ok_law_told P3 LC Tc A_law_told
  have L8 := ok_law_is_alphabet (P := P) (w := w) (base := base) TT A_law_is_alphabet
  have L9 := ok_law_bad (P := P) (w := w) (base := base) TT A_law_bad
  have L10 := ok_law_refused L8 B3 X8 TT A_law_refused
  have DL := ok_law L2' L3 L4 L5 L6 L6b L6c P3 L7 L9 L10 Tc A_law
  obtain ⟨f1, fd1, F1, FO, hm1, _⟩ := DL.ex
  have e := hm.symm.trans hm1
  cases e
  have e2 : fd = fd1 := fd_one F F1
  rw [e2]
  exact FO
end My
open PySem PySem.W PySem.Calls PyProof.Rows
theorem PySem.Challenge.cw_unpressed_k07_text_with_count_holds : PySem.Challenge.rw_unpressed_k07_text_with_count.Holds := by
  w_on; o_law
  refine HandSHeadRun.head_imp (r := OpenLaw.row PySem.Challenge.rw_unpressed_k07_text_with_count) (q := view (OpenLaw.row PySem.Challenge.rw_unpressed_k07_text_with_count).prog [0, 35]) (H := My.hk) (ob := My.ob) (M := 4000) (loose := My.loose) (d := HandSHeadRun.topDef (OpenLaw.row PySem.Challenge.rw_unpressed_k07_text_with_count).prog 35) (kwd := []) My.ob_eq
    My.run (by kernel_rfl) (by kernel_rfl) (by kernel_rfl) (by rfl) (by first | assumption | decide +kernel) (by decide +kernel) ⟨rfl, rfl, rfl, rfl, rfl, by decide +kernel⟩ ?hw ?hc
  case hw => w_witness2
  case hc =>
    refine L2.walk_ofE (l := PySem.Challenge.rw_unpressed_k07_text_with_count) (n := 63) (k := 7) (x := "script") (CX := L2.CX0) rfl (by decide) (by kernel_rfl) ⟨rfl, by decide, by decide⟩ ?F (fun _ _ _ _ z => z)
    intro w mg fa h Y G hmg0
    obtain ⟨K, KX, c⟩ := Y
    have hmg : mg ("law" : PySem.Str) = some (.ref fa) := by
      have e : (HandSHeadRun.topDef (OpenLaw.row PySem.Challenge.rw_unpressed_k07_text_with_count).prog 35).name = ("law" : PySem.Str) := by kernel_rfl
      rw [← e]
      exact hmg0
    obtain ⟨fd, hb, hF⟩ := My.facts (P := (PySem.Challenge.rw_unpressed_k07_text_with_count).prog) (w := w) KX G (by kernel_rfl) rfl hmg c
    exact ⟨K, fd, My.spLaw K, KX, hb, fun H a ns hl _ hS => ⟨a, ns, rfl, hS, fun _ => rfl⟩, hF⟩
