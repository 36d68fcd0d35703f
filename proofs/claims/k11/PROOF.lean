import PyProof.Rows.All
import Wide.All
import OpenK.AllK
import Wide.FinOn
import HandS.ForMost
import HandS.Evl
import KE.KStateDown
import HandS.Wide
import HandS.WideBits
import HandS.StrMore
import HandS.SortInts
import HandS.IsInst
import HandS.FStr
import HandS.Conv
import HandS.Defaults
import HandS.WordsExc
import HandS.Head0
import HandS.Head1
import HandS.Head2
import HandS.HeadEnd
import HandS.HeadHook1
import HandS.HeadHook2
import HandS.Gcd
import HandS.Head3
import Flt.RightSqrt
import HandS.Codes
import HandS.Dict
import PyProof.StrOps2
import HandS.Words
import HandS.TryOnly
import HandS.HeadHook4
import PySem.Challenge.RW_unpressed_k11_unlike_rows_judged
set_option Elab.async false
set_option maxRecDepth 100000
set_option maxHeartbeats 4000000
namespace My
open PySem PySem.W PySem.Calls PyProof.Rows PySem.Builtin PySem.Builtin.Str PySem.Builtin.Int
/-- a number's digits to base two -/
def binT (n : Nat) : PySem.Str := ⟨((Nat.toDigits 2 n).map Char.toNat).toArray⟩
theorem fmt_b {a : Int} {t : Tok} (h0 : 0 ≤ a) (hL : (binT a.natAbs).length ≤ sizeLine) (u : Tok) : Meets («int.__format__» ⟨[.int a t, .str (⟨#[98]⟩ : PySem.Str) u], []⟩) (fun _ R s => ∀ t' k, R (.ok (.ret (.str (binT a.natAbs) t'))) { s with toks := k }) := by
  apply KPc.meets_of
  intro prog w A s Q E hq
  unfold Builtin.«int.__format__»
  refine wpAny_bind (wpAny_of_eq (a := (_, _)) rfl ?_)
  refine wpAny_bind (wpAny_of_eq (a := _) rfl ?_)
  kxf_if
  refine wpAny_bind (wpAny_typeNameOf (T := "str") (typeIs_str _ _ _) (by decide) fun _ => ?_)
  refine wpAny_bind (wpAny_of_eq (a := some _) rfl ?_)
  kxf_if
  kxf_if
  refine wpAny_bind (wpAny_typeNameOfCut_int ?_)
  (repeat kxf_if)
  refine (fun (e : _ = binT a.natAbs) => KXf.ret_text e (by rw [e]; exact hL) hq) ?e
  case e =>
    have hn : decide (a < 0) = false := decide_eq_false (by omega)
    have hD : Nat.toDigits 2 a.natAbs ≠ [] := Nat.toDigits_ne_nil
    rw [hn]
    unfold binT
    generalize Nat.toDigits 2 a.natAbs = D at hD ⊢
    conv => lhs; whnf
    have z : ∀ n : Nat, (-1 - (n : Int)).toNat = 0 := fun n => by omega
    simp [hD, Option.isNone, List.head?, z]
    trace_state
end My

set_option Elab.async false
set_option linter.all false
set_option maxRecDepth 100000
set_option maxHeartbeats 4000000
namespace My
open PySem PySem.Spec PyProof.Rows L2 Evl
/-! ### defs at their names -/
structure Dn (P : Program) (w : World) (K : PySem.W.Frag) (mg : Str → Option Value) (base : Heap) (k : Nat) (x : Str) (st : Stmt) (ps : List Str) (sp : Sp) : Prop where
  ex : ∃ (f : Addr) (fd : FuncData), FunD K x x (defArgs st) (defBody st) (defScope st) [] [] f fd ∧ FnOk P w K mg base CX0 k f fd ps sp ∧ mg x = some (.ref f) ∧ Binds K fd ps []
/-- the same for a call by keywords ks -/
structure Kd (P : Program) (w : World) (K : PySem.W.Frag) (mg : Str → Option Value) (base : Heap) (k : Nat) (x : Str) (n : Nat) (ks : List Str) (gV : List V → List V → List V) (sp : Sp) : Prop where
  ex : ∃ (f : Addr) (fd : FuncData) (ps : List Str) (g : List Value → List Value → List Value), FnOk P w K mg base CX0 k f fd ps sp ∧ mg x = some (.ref f) ∧ PySem.W.keepIn K (.ref f) = true ∧ KBn K fd ps n ks g gV
abbrev FnP (K : PySem.W.Frag) (x : Str) (st : Stmt) (f : Addr) (fd : FuncData) : Prop := FunD K x x (defArgs st) (defBody st) (defScope st) [] [] f fd
structure At (K : PySem.W.Frag) (mg : Str → Option Value) (x : Str) (st : Stmt) : Prop where
  ex : ∃ (f : Addr) (fd : FuncData), FnP K x st f fd ∧ mg x = some (.ref f)
section
variable {P : Program} {w : World} {K : PySem.W.Frag} {mg : Str → Option Value} {base : Heap} {x : Str} {st : Stmt} {N ps : List Str} {k : Nat} {sp : Sp}
theorem FunD.kbn {K : PySem.W.Frag} {x qual : Str} {params : Arguments} {body : List Stmt} {scope : Scope} {kws : List (Str × V)} {f : Addr} {fd : FuncData} {ps : List Str} (F : FunD K x qual params body scope [] kws f fd) (n : Nat) (ks : List Str) (g : List Value → List Value → List Value) (gV : List V → List V → List V)
    (h : ∀ (kV doc pm : Value) (an : Option Addr) (cdv ct : Value) (us ws : List Value), us.length = n → ws.length = ks.length → bindArgs (PySem.W.fnOf x qual params body scope .none kV doc pm an cdv ct) ⟨us, ks.zip ws⟩ = pure (ps.zip (g us ws)))
    (hr : ∀ {vs : List V} {us : List Value} {zs : List V} {ws : List Value}, Vals vs us → Vals zs ws → Vals (gV vs zs) (g us ws)) : KBn K fd ps n ks g gV := by
  obtain ⟨oc, od, dV, kV, doc, pm, an, cdv, ct, osl, rfl, lk, hcd, hD, hK⟩ := F.ex
  rcases hD with ⟨_, rfl⟩ | ⟨e, _⟩
  · exact ⟨fun s us ws _ l1 l2 => .of_eq (h kV doc pm an cdv ct us ws l1 l2), hr⟩
  · exact absurd rfl e
theorem dn_ok (F : At K mg x st) (S : FnScope N ps (defScope st))
    (hb : ∀ (kV doc pm : Value) (an : Option Addr) (cdv ct : Value) (us : List Value), us.length = ps.length → bindArgs (PySem.W.fnOf x x (defArgs st) (defBody st) (defScope st) .none kV doc pm an cdv ct) ⟨us, []⟩ = pure (ps.zip us))
    (len : ∀ vs H Q E, sp vs H Q E → vs.length = ps.length)
    (hbody : ∀ (f : Addr) (cdv : Value) (A : Around) (outer : List Env) (s : Shared) (H : Hp) (vs : List V) (Q : VK) (E : XK), Room k (A.deeper (envOfC x (defScope st) s.heap.objs.size f cdv)) → sp vs H Q E →
      ∃ t, PSs (cxOf CX0 P w K mg base N x (defScope st) f cdv A outer s H E).nox (defBody st) t ∧ t { nx := fun _ H' => Q .non H', rt := Q } (start N vs) H) : Dn P w K mg base (k + 1) x st ps sp := by
  obtain ⟨f, fd, F, g⟩ := F.ex
  refine ⟨f, fd, F, FunD.ok F S len (fun cdv A outer s H vs Q E hr h => ?_), g, F.bindsN hb⟩
  obtain ⟨t, h1, h2⟩ := hbody f cdv A outer s H vs Q E hr h
  exact ⟨t, PSs.nox h1, h2⟩
/-- one function object stands at one address -/
theorem fd_one {K : PySem.W.Frag} {x : Str} {st st' : Stmt} {f : Addr} {fd fd' : FuncData} (F : FnP K x st f fd) (F' : FnP K x st' f fd') : fd = fd' := by
  obtain ⟨oc, od, dV, kV, doc, pm, an, cdv, ct, osl, h1, lk, _⟩ := F.ex
  obtain ⟨oc2, od2, dV2, kV2, doc2, pm2, an2, cdv2, ct2, osl2, h2, lk2, _⟩ := F'.ex
  rw [lk] at lk2
  simp only [Option.some.injEq, Obj.mk.injEq, Data.func.injEq] at lk2
  exact lk2.2.2.1
/-- a call by keywords of a def that keeps its promise -/
theorem kd_of (D : Dn P w K mg base k x st ps sp) (n : Nat) (ks : List Str) (g : List Value → List Value → List Value) (gV : List V → List V → List V)
    (h : ∀ (kV doc pm : Value) (an : Option Addr) (cdv ct : Value) (us ws : List Value), us.length = n → ws.length = ks.length → bindArgs (PySem.W.fnOf x x (defArgs st) (defBody st) (defScope st) .none kV doc pm an cdv ct) ⟨us, ks.zip ws⟩ = pure (ps.zip (g us ws)))
    (hr : ∀ {vs : List V} {us : List Value} {zs : List V} {ws : List Value}, Vals vs us → Vals zs ws → Vals (gV vs zs) (g us ws)) : Kd P w K mg base k x n ks gV sp := by
  obtain ⟨f, fd, F, FO, g1, _⟩ := D.ex
  exact ⟨f, fd, ps, g, FO, g1, F.kp, FunD.kbn F n ks g gV h hr⟩
end
section
variable {X : Cx} {k j n : Nat} {x : Str} {p pos : Pos} {ps ks : List Str} {sp : Sp} {gV : List V → List V → List V} {e : Expr} {es : List Expr} {kws : List Keyword} {t tk : TA}
theorem pe_dn {st : Stmt} (D : Dn X.prog X.w X.K X.mg X.base k x st ps sp) (hr : Room j X.A) (hk : k ≤ j) (hg : Gl X x) (ha : PA X (e :: es) t) (hdb : (x == ("__debug__" : Str)) = false := by decide)
    (he : starEach (e :: es) X.env = (false, eval e X.env) :: starEach es X.env := by rfl) (hpl : (backTo pos (starEach es X.env)).any (·.1) = false := by rfl) : PE X (.Call (.Name x p) (e :: es) [] pos) (tCall sp [] E0 t) := by
  obtain ⟨f, fd, FD, F, hm, hb⟩ := D.ex
  exact pe_call F (hr.mono hk) hg hm FD.kp hb .nil pass0 ha (hdb := hdb) (he := he) (hpl := hpl)
theorem pe_kd (D : Kd X.prog X.w X.K X.mg X.base k x 0 ks gV sp) (hr : Room j X.A) (hk' : k ≤ j) (hg : Gl X x) (hkw : PK X kws tk)
    (hall : (backToKw pos (keywordEach kws X.env)).all (·.1.isSome) = true := by rfl) (hks : (backToKw pos (keywordEach kws X.env)).filterMap (·.1) = ks := by rfl)
    (hdb : (x == ("__debug__" : Str)) = false := by decide)
    (hpl : ((backTo pos (starEach [] X.env)).any (·.1) || (backToKw pos (keywordEach kws X.env)).any (·.1.isNone)) = false := by rfl) :
    PE X (.Call (.Name x p) [] kws pos) (tCallN 0 ks.length sp gV E0 tNil tk) := by
  obtain ⟨f, fd, ps, g, F, hm, hk, hb⟩ := D.ex
  refine ⟨fun pins s σ H Q I h => ?_⟩
  refine wpAny_Call_Name_kw (ld_glob I hg hm ?_ hdb)
  refine PySem.W.callWith_KW0 (h₀ := X.base) I.ok.mod.kin hk hall (thn (hkw.run pos pins s σ H _ I h) fun ws s2 ⟨zs, H2, I2, rz, l1, l2, q2⟩ => ⟨I2.kIn, ?_⟩) hpl
  rw [hks]
  exact run_fnN F (hr.mono hk') hb pass0 I2 .nil rz l1 l2 q2
/-- a built-in type by its name -/
theorem pe_tyn (T : String) {x : Str} {pos : Pos} (hg : Gl X x) (hm : X.mg x = none) (hv : bootBuiltins x = some (.type T)) (hn : x ≠ "__name__" := by decide) (hd : (x == ("__debug__" : Str)) = false := by decide) : PE X (.Name x pos) (tC (.ty T)) := pe_bltn hg hm hv (show RelV (.ty T) (.type T) from rfl) hn hd
/-- f'{x:b}' of a number not below 0 -/
def tFmtB (te : TE) : TE := fun σ H Q => te σ H fun x H1 => ∃ i : Int, x = .int i ∧ 0 ≤ i ∧ (binT i.natAbs).length ≤ sizeLine ∧ Q (.str (binT i.natAbs)) H1
theorem pe_fmtB {te : TE} {pos p1 p2 : Pos} {j : Nat} (he : PE X e te) : PE X (.FormattedValue e (-1) (some (.JoinedStr [.Constant (.str "b") j p1] p2)) pos) (tFmtB te) := by
  refine ⟨fun pins s σ H Q I h => ?_⟩
  refine wpAny_FormattedValue_spec (thn (he.run pins s σ H _ I h) fun v s1 hv => ?_)
  obtain ⟨x, H1, I1, r1, i, rfl, h0, hz, q⟩ := hv
  obtain ⟨t, rfl⟩ := r1
  have hs : PE X (.JoinedStr [.Constant (.str "b") j p1] p2) (tC (.str "b")) := pe_joined1 pe_str
  refine thn (hs.run pins s1 σ H1 (fun v H' => v = .str "b" ∧ H' = H1) I1 ⟨rfl, rfl⟩) fun v2 s2 hv2 => ?_
  obtain ⟨y, H2, I2, r2, rfl, rfl⟩ := hv2
  obtain ⟨t2, rfl⟩ := r2
  refine ⟨_, _, rfl, PySem.W.KXf.field_int (spec' := ⟨#[98]⟩) (by decide +kernel) rfl (by decide) (fun u => fmt_b h0 hz u) fun t' k => ?_⟩
  exact ⟨.str _, _, I2.tok _, ⟨_, rfl⟩, q⟩
end
/-! ### readings -/
section
variable {K : PySem.W.Frag} {σ : L2.St} {H : Hp} {ta tb te : TE} {x y z v : V} {D : Ends} {tu tz : TS}
def rInt1 : List V → Hp → VK → Prop := fun xs H Q => (∃ i, xs = [.int i] ∧ Q (.int i) H) ∨ ∃ k, xs = [.bl k] ∧ Q (.int (if k then 1 else 0)) H
theorem ev_int {i : Int} (h : Ev te σ H (.int i)) : Ev (tCB rInt1 (tCons te tNil)) σ H (.int i) := fun H1 e Q q => h H1 e _ fun H2 e2 => Or.inl ⟨i, rfl, q H2 e2⟩
theorem ev_intB {b : Bool} (h : Ev te σ H (.bl b)) : Ev (tCB rInt1 (tCons te tNil)) σ H (.int (if b then 1 else 0)) := fun H1 e Q q => h H1 e _ fun H2 e2 => Or.inr ⟨b, rfl, q H2 e2⟩
def rMin2 : List V → Hp → VK → Prop := fun xs H Q => ∃ i j, xs = [.int i, .int j] ∧ Q (.int (if j < i then j else i)) H
theorem ev_min2 {i j : Int} (ha : Ev ta σ H (.int i)) (hb : Ev tb σ H (.int j)) : Ev (tCB rMin2 (tCons ta (tCons tb tNil))) σ H (.int (if j < i then j else i)) := fun H1 e Q q =>
  ha H1 e _ fun H2 e2 => hb H2 (e.trans e2) _ fun H3 e3 => ⟨i, j, rfl, q H3 (e2.trans e3)⟩
theorem ev_isi {c : V} {t u : Value} {b : Bool} (ha : Ev ta σ H x) (hb : Ev tb σ H c) (k : ClsV c u) (ty : ∀ H1, Ex H H1 → TyX K H1 x t) (e : PySem.W.kitOne K t u = some b) : Ev (tCB (rIsi K) (tCons ta (tCons tb tNil))) σ H (.bl b) := fun H1 e1 Q q =>
  ha H1 e1 _ fun H2 e2 => hb H2 (e1.trans e2) _ fun H3 e3 => ⟨x, c, t, u, b, rfl, k, ty H3 ((e1.trans e2).trans e3), e, q H3 (e2.trans e3)⟩
theorem ev_lenStr {s : Str} (ha : Ev ta σ H (.str s)) (hs : s.length ≤ sizeLine) : Ev (tCB (fun xs H Q => ∃ z : Str, xs = [.str z] ∧ z.length ≤ sizeLine ∧ Q (.int z.length) H) (tCons ta tNil)) σ H (.int (s.length : Int)) := fun H1 e Q q =>
  ha H1 e _ fun H2 e2 => ⟨s, rfl, hs, q H2 e2⟩
theorem ev_bits {i : Int} (h : Ev te σ H (.int i)) : Ev (tBits te) σ H (.int (Builtin.Int.intBits i : Nat)) := fun H1 e Q q => h H1 e _ fun H2 e2 => ⟨i, rfl, q H2 e2⟩
theorem ev_fmtB {i : Int} (h : Ev te σ H (.int i)) (h0 : 0 ≤ i) (hz : (binT i.natAbs).length ≤ sizeLine) : Ev (tFmtB te) σ H (.str (binT i.natAbs)) := fun H1 e Q q => h H1 e _ fun H2 e2 => ⟨i, rfl, h0, hz, q H2 e2⟩
def rZfill : V → List V → Hp → VK → Prop := fun x xs H Q => ∃ (a : Str) (i : Int), x = .str a ∧ xs = [.int i] ∧ PadOk i = true ∧ Q (.str (Txt.zfill a i)) H
theorem ev_zfill {a : Str} {i : Int} (ha : Ev ta σ H (.str a)) (hb : Ev tb σ H (.int i)) (hp : PadOk i = true) : Ev (tBM K "str" rZfill ta (tCons tb tNil)) σ H (.str (Txt.zfill a i)) := fun H1 e Q q =>
  ha H1 e _ fun H2 e2 => ⟨rfl, hb H2 (e.trans e2) _ fun H3 e3 => ⟨a, i, rfl, rfl, hp, q H3 (e2.trans e3)⟩⟩
theorem ev_callN {n m : Nat} {sp : Sp} {gV : List V → List V → List V} {E : XK} {t tk : TA} {vs zs : List V} (h : EvA t σ H vs) (hk : EvA tk σ H zs) (h1 : vs.length = n) (h2 : zs.length = m) (hs : SpV sp (gV vs zs) H z) : Ev (tCallN n m sp gV E t tk) σ H z := fun H1 e Q q =>
  h H1 e _ fun H2 e2 => hk H2 (e.trans e2) _ fun H3 e3 => ⟨h1, h2, hs H3 ((e.trans e2).trans e3) Q (fun H4 e4 => q H4 ((e2.trans e3).trans e4)) E⟩
/-- two new lists one behind the other -/
theorem el_cat {xs ys : List V} (ha : EvL ta σ H xs) (hb : EvL tb σ H ys) (hz : xs.length + ys.length ≤ 100000) : EvL (tOp rCat ta tb) σ H (xs ++ ys) := fun H1 e Q q =>
  ha H1 e _ fun p H2 hp e2 h2 => hb H2 (e.trans e2) _ fun r H3 hr e3 h3 => ⟨p, r, xs, ys, rfl, rfl, e3 p _ h2, h3, sz_of hz, fun l hl => q l _ (fresh_back (e2.trans e3) hl) ((e2.trans e3).trans (Ex.new hl)) upd_same⟩
theorem el_catV {xs ys : List V} {b : Addr} (ha : EvL ta σ H xs) (hb : Ev tb σ H (.ref b)) (hy : H b = some (.lst ys)) (hz : xs.length + ys.length ≤ 100000) : EvL (tOp rCat ta tb) σ H (xs ++ ys) := fun H1 e Q q =>
  ha H1 e _ fun p H2 hp e2 h2 => hb H2 (e.trans e2) _ fun H3 e3 => ⟨p, b, xs, ys, rfl, rfl, e3 p _ h2, ((e.trans e2).trans e3) b _ hy, sz_of hz, fun l hl => q l _ (fresh_back (e2.trans e3) hl) ((e2.trans e3).trans (Ex.new hl)) upd_same⟩
end
end My

set_option Elab.async false
set_option linter.all false
set_option maxRecDepth 100000
set_option maxHeartbeats 4000000
namespace My
open PySem PySem.Spec PyProof.Rows L2 Evl
/-! ### a law's def, called where no text of an object is under way -/
structure FnG (P : Program) (w : World) (K : PySem.W.Frag) (mg : Str → Option Value) (base : Heap) (CX : CXT) (k : Nat) (f : Addr) (fd : FuncData) (ps : List Str) (sp : Sp) : Prop where
  run : ∀ (A : Around) (outer : List Env) (s : Shared) (H : Hp) (args : Args) (us : List Value) (vs : List V) (Q : VK) (E : XK), Room k A → A.guards = some [] → Env0 P w K mg base A outer s H → BindsTo s fd args (ps.zip us) → Vals vs us → sp vs H Q E →
    codeAny (model P w) A (.call (.ref f) args) (CR CX outer P w H s Q E) s
theorem guards_deeper (A : Around) (env : Env) : (A.deeper env).guards = A.guards := rfl
section
variable {P : Program} {w : World} {K : PySem.W.Frag} {mg : Str → Option Value} {base : Heap}
theorem fnG_of {k : Nat} {f : Addr} {fd : FuncData} {x : Str} {st : Stmt} {N ps : List Str} {sp : Sp} (F : FnP K x st f fd) (S : FnScope N ps (defScope st)) (len : ∀ vs H Q E, sp vs H Q E → vs.length = ps.length)
    (body : ∀ (cdv : Value) (A : Around) (outer : List Env) (s : Shared) (H : Hp) (vs : List V) (Q : VK) (E : XK), Room k (A.deeper (envOfC x (defScope st) s.heap.objs.size f cdv)) → A.guards = some [] → sp vs H Q E →
      ∃ t, PSs (cxOf CX0 P w K mg base N x (defScope st) f cdv A outer s H E).nox (defBody st) t ∧ t { nx := fun _ H' => Q .non H', rt := Q } (start N vs) H) : FnG P w K mg base CX0 (k + 1) f fd ps sp := by
  obtain ⟨oc, od, dV, kV, doc, pm, an, cdv, ct, osl, rfl, lk, hcd, _, _⟩ := F.ex
  constructor
  intro A outer t H args us vs Q E room gd env bind rel hsp
  have hlen := len vs H Q E hsp
  have inK : K.In t.heap := env.mod.kin.keeps fun b o z => (env.bs b o z).1
  have noLim : t.heap.NoLimit := env.mod.nolimit.keeps fun b o z => (env.bs b o z).1
  refine codeAny_call_function room.depth (inK _ _ lk) rfl S.co S.gen rfl (PySem.W.codeRec_of inK hcd) (bind _ _ _ _ ?_)
  refine wpAny_newFunctionEnv_cells S.kind (fun y hy => ?_) fun env' e1 t1 inCall => ?_
  · obtain ⟨n, v⟩ := y
    rcases S.par n (List.of_mem_zip hy).1 with z | z
    · exact Or.inl z
    · exact Or.inr ⟨z, PySem.W.cellsFrom_some _ _ _ (Or.inl z)⟩
  subst e1
  refine ⟨noLim.keeps inCall.toInCall.keep, codeAny_func ?_⟩
  obtain ⟨tt, ht0, hq⟩ := body cdv A outer t H vs Q E (room.deeper _) gd hsp
  have ht := PSs.nox ht0
  have J0 : Inv (cxOf CX0 P w K mg base N x (defScope st) f cdv A outer t H E) [] (start N vs) H t1 := inv_start S room.hd env hlen rel inCall
  refine wpAny_mono (ht.run [] t1 (start N vs) H _ J0 hq) (fun fl t2 hs => ?_) fun _ _ z => z
  cases fl with
  | ret u =>
    obtain ⟨v, σ', H', J, rv, q⟩ := hs
    exact ⟨v, H', J.os, J.bare, J.base, J.hok, rv, q⟩
  | next =>
    obtain ⟨σ', H', J, q⟩ := hs
    exact ⟨V.non, H', J.os, J.bare, J.base, J.hok, rfl, q⟩
  | brk =>
    obtain ⟨_, _, _, q⟩ := hs
    exact q.elim
  | cont =>
    obtain ⟨_, _, _, q⟩ := hs
    exact q.elim
/-- the law called on its script -/
theorem lawG_call {k : Nat} {fa a : Addr} {fd : FuncData} {x : Str} {mb : Str → Option Value} {sp : Sp} {t : Shared} {vs : List Value} {ns : List Int}
    (inK : K.In t.heap) (gN : t.heap.Ns mainGlobals mg) (bN : t.heap.Ns builtinsNs mb) (bI : ∀ y : Str, y ≠ "__name__" → mb y = bootBuiltins y) (noLim : t.heap.NoLimit) (gE : t.gens = #[])
    (hobj : t.heap.get? a = some { cls := .type "list", data := .seq vs.toArray }) (hi : IntsAre vs ns) (hl : ns.length ≤ sizeLine) (room : Room k callerA)
    (F : ∀ base : Heap, K.In base → base.Ns mainGlobals mg → FnG P w K mg base CX0 k fa fd [x] sp) (bind : ∀ (s : Shared) (u : Value), BindsTo s fd ⟨[u], []⟩ [(x, u)])
    (hsp : ∀ H : Hp, SqL K H a (ns.map V.int) → sp [.ref a] H (fun v _ => v = .bl true) fun _ _ _ => False) :
    codeAny (model P w) callerA (.call (.ref fa) ⟨[.ref a], []⟩) (fun r s' => r = .ok (.ret (.bool true)) ∧ OldK t.heap s'.heap ∧ s'.os = t.os ∧ AllBare s'.gens) t := by
  have go : ∀ H : Hp, (∀ b, H b ≠ none → b = a ∧ K.lookup a = none ∧ ∃ ob xs, H a = some (HO.frz ob (.lst xs))) → SqL K H a (ns.map V.int) → HOk P w H t.heap →
      codeAny (model P w) callerA (.call (.ref fa) ⟨[.ref a], []⟩) (fun r s' => r = .ok (.ret (.bool true)) ∧ OldK t.heap s'.heap ∧ s'.os = t.os ∧ AllBare s'.gens) t := by
    intro H hH hS hok
    have free : ∀ {b : Addr} {o : Obj} {es : Array DictEntry} {ep : Nat}, t.heap.get? b = some o → o.data = .dict es ep → H b = none := by
      intro b o es ep g d
      by_cases z : H b = none
      · exact z
      · obtain ⟨rfl, _⟩ := hH b z
        rw [hobj] at g
        cases g
        cases (show Data.seq vs.toArray _ = Data.dict es ep from d)
    have ns' : ∀ {b : Addr} {m : Str → Option Value}, t.heap.Ns b m → (hidT t.heap H).Ns b m := by
      rintro b m ⟨o, es, ep, g, d, r⟩
      exact ⟨o, es, ep, hidT_get g (free g d), d, r⟩
    have inB : K.In (hidT t.heap H) := by
      intro b o g
      refine hidT_get (inK b o g) ?_
      by_cases z : H b = none
      · exact z
      · obtain ⟨rfl, z2, _⟩ := hH b z
        rw [z2] at g
        cases g
    have md : Mod K mg (hidT t.heap H) := by
      obtain ⟨mc, h1, h2⟩ := noLim
      exact ⟨inB, ns' gN, ⟨mb, ns' bN, bI⟩, ⟨mc, ns' h1, h2⟩⟩
    have env : Env0 P w K mg (hidT t.heap H) callerA [] t H := ⟨rfl, md, fun b o g => of_hidT g, Nat.le_of_eq (hidT_size _ _), trivial, fun b hb => (List.not_mem_nil hb).elim, hok, .of_eq gE⟩
    have run := (F _ inB (ns' gN)).run callerA [] t H ⟨[.ref a], []⟩ [.ref a] [.ref a] _ _ room rfl env (bind t (.ref a)) (.cons rfl .nil) (hsp H hS)
    refine codeAny_mono run fun r s' h => ?_
    match r, h with
    | .ok (.ret u), h =>
      obtain ⟨v, H', os, bare, un, hok', rel, q⟩ := h
      cases (show v = V.bl true from q)
      obtain rfl : u = Value.bool true := rel
      refine ⟨rfl, OldK.of_keep fun b o g => ?_, os, bare⟩
      by_cases z : H b = none
      · exact un.keep b o g z (fun c => (List.not_mem_nil c).elim) (fun c => (List.not_mem_nil c).elim)
      · obtain ⟨rfl, _, ob, xs, z2⟩ := hH b z
        have z3 := un.frzs b ob _ z2
        obtain ⟨g1, _⟩ := hok b _ z2
        obtain ⟨g2, _⟩ := hok' b _ z3
        rw [g] at g1
        cases g1
        exact g2
  have rel := vals_ints hi
  have lenV := hi.length
  by_cases hk : K.lookup a = none
  · refine go (fun b => if b = a then some (.frz { cls := .type "list", data := .seq vs.toArray } (.lst (ns.map V.int))) else none) (fun b z => ?_) (Or.inl (Or.inr ⟨_, if_pos rfl⟩)) (fun b u z => ?_)
    · have e : b = a := by
        by_cases e : b = a
        · exact e
        · exact (z (if_neg e)).elim
      exact ⟨e, hk, _, _, if_pos rfl⟩
    · by_cases e : b = a
      · have z' := (if_pos e).symm.trans z
        cases z'
        subst e
        exact ⟨hobj, by rw [List.length_map]; exact hl, vs, _, rel, hobj⟩
      · have z' := (if_neg e).symm.trans z
        cases z'
  · obtain ⟨o, ho⟩ := Option.ne_none_iff_exists'.mp hk
    have g := inK a o ho
    rw [hobj] at g
    cases g
    refine go (fun _ => none) (fun b z => (z rfl).elim) (Or.inr ⟨_, vs.toArray, _, ho, rfl, rfl, rfl, by rw [List.size_toArray, lenV]; exact hl, by simpa using rel⟩) (fun b u z => ?_)
    cases (show (none : Option HO) = some u from z)
end
theorem walkG {l : PySem.W.OpenLaw} {n k : Nat} {q : Program} {loose : List Str} {XP : (Str → Option Value) → Heap → Prop} {YP : World → Heap → Prop} {d : DefRec} {x : Str}
    (hn : l.most = some n) (hn2 : n ≤ sizeLine) (hdf : d.params.defaults = []) (room : Room k callerA)
    (F : ∀ (w : World) (mg : Str → Option Value) (fa : Addr) (h : Heap), YP w h → h.Ns mainGlobals mg → mg d.name = some (.ref fa) →
      ∃ (K : PySem.W.Frag) (fd : FuncData) (sp : Sp), K.In h ∧ (∀ (s : Shared) (u : Value), BindsTo s fd ⟨[u], []⟩ [(x, u)]) ∧
        (∀ (H : Hp) (a : Addr) (ns : List Int), ns.length ≤ n → SqL K H a (ns.map V.int) → sp [.ref a] H (fun v _ => v = .bl true) fun _ _ _ => False) ∧
        ∀ base : Heap, K.In base → base.Ns mainGlobals mg → FnG l.prog w K mg base CX0 k fa fd [x] sp) :
    PySem.W.WalkO q loose XP YP l.row.toRowW d [] (fun f vs => PySem.call f vs) := by
  refine Att.attach_call hn hdf fun w s0 s1 mg mb fa o pm cd doc a vs ns G Y _ _ _ hmg hobj hints hlen hg => ?_
  obtain ⟨K, fd, sp, inK, hb, hsp, hF⟩ := F w mg fa _ Y G.T.g hmg
  exact lawG_call inK G.T.g G.T.b G.T.builtins G.T.nolimit hg hobj hints (Nat.le_trans hlen hn2) room hF hb fun H hS => hsp H a ns hlen hS
/-! ### repr of a list of ints -/
def reprInts (ns : List Int) : Str := (PyData.list (ns.map PyData.int)).shown
section
variable {X : Cx}
theorem reads_ints {h : Heap} : ∀ {ns : List Int} {its : List Value}, Vals (ns.map V.int) its → ReadsAll h its (ns.map PyData.int) []
  | [], _, .nil => .nil
  | n :: ns, _, .cons ⟨t, e⟩ r => by
    subst e
    exact .cons (.int n t) (reads_ints r)
theorem showable_ints : ∀ {ns : List Int}, (∀ n ∈ ns, n.natAbs.log2 < 1920) → PyData.showableAll (ns.map PyData.int) = true
  | [], _ => rfl
  | n :: ns, h => by
    show (decide (n.natAbs.log2 < 1920) && PyData.showableAll (ns.map PyData.int)) = true
    rw [decide_eq_true (h n List.mem_cons_self), showable_ints fun m hm => h m (List.mem_cons_of_mem _ hm)]
    rfl
def rReprL (K : PySem.W.Frag) : List V → Hp → VK → Prop := fun xs H Q => ∃ p ns, xs = [.ref p] ∧ H p = some (.lst (ns.map V.int)) ∧ (∀ n ∈ ns, n.natAbs.log2 < 1920) ∧ (reprInts ns).length ≤ sizeLine ∧ Q (.str (reprInts ns)) H
theorem depth_ints : ∀ ns : List Int, PyData.depthAll (ns.map PyData.int) ≤ 1
  | [] => by decide
  | n :: ns => by
    have h := depth_ints ns
    simp only [List.map_cons, PyData.depthAll, PyData.depth]
    omega
theorem noDict_ints : ∀ ns : List Int, PyData.hasDictAll (ns.map PyData.int) = false
  | [] => rfl
  | n :: ns => by
    have h := noDict_ints ns
    simp only [List.map_cons, PyData.hasDictAll, PyData.hasDict, h, Bool.or_self]
theorem cr_reprL {k : Nat} (hg : X.A.guards = some []) (hr : Room k X.A) : CallR X (.builtin "repr") (rReprL X.K) := by
  intro pins s σ H xs us Q I r h
  obtain ⟨p, ns, rfl, hp, hb, hz, q⟩ := h
  obtain ⟨u, rfl, ru⟩ := vals1 r
  cases (show u = Value.ref p from ru)
  obtain ⟨its, rv, pl, _⟩ := I.list (SqL.of hp)
  obtain ⟨o, n0, ho, hc, _, hd⟩ := pl
  have hd1 := depth_ints ns
  have hu := hr.units
  refine repr_of_reads' (d := .list (ns.map PyData.int)) (.list ho hc hd (by simpa using reads_ints rv)) (showable_ints hb) (fun c => by simp [PyData.hasDict, noDict_ints] at c) hg (by simp only [PyData.depth]; omega) (fun b o z => z) (fun h' u tk hk => ?_) hz
  exact ⟨.str _, H, I.kept hk, ⟨u, rfl⟩, q⟩
end
end My

set_option Elab.async false
set_option linter.all false
set_option maxRecDepth 100000
set_option maxHeartbeats 4000000
namespace My
open PySem PySem.Spec PyProof.Rows L2 Evl
section
variable {X : Cx}
theorem pip_of {op : Operator} {r : R2} (h : OpR X (inplaceOp op) r) : PIp X op r := fun pins s σ H x y v u Q I r1 r2 hh => h pins s σ H x y v u Q I r1 r2 hh
def rIsqrt : List V → Hp → VK → Prop := fun xs H Q => ∃ n : Nat, xs = [.int (n : Int)] ∧ n < 2 ^ 4000 ∧ Q (.int (Float64.isqrt n : Nat)) H
theorem cr_isqrt : CallR X (.builtin "math.isqrt") rIsqrt := by
  intro pins s σ H xs us Q I r h
  obtain ⟨n, rfl, hn, q⟩ := h
  obtain ⟨u, rfl, t, rfl⟩ := vals1 r
  have hl : ((n : Nat) : Int).toNat.log2 ≤ 3999 := by
    rw [Int.toNat_natCast]
    by_cases z : n = 0
    · subst z; decide
    · exact Nat.le_of_lt_succ ((Nat.log2_lt z).mpr hn)
  have g := PySem.W.mg_run_isqrt (n : Int) t (by omega) (by omega) (by omega)
  exact call_function_meets PySem.W.MGF.kind_isqrt PySem.W.MGF.plain_isqrt PySem.W.MGF.entry_isqrt (PySem.W.MGF.args_isqrt _) g.meets ⟨.int _, H, I.tok _, ⟨_, by rw [Int.toNat_natCast]⟩, q⟩
end
section
variable {K : PySem.W.Frag} {σ : L2.St} {H : Hp} {ta tb te : TE} {x y z v : V} {D : Ends} {tu tz : TS}
theorem ev_isqrt {n : Nat} (h : Ev te σ H (.int (n : Int))) (hn : n < 2 ^ 4000) : Ev (tCB rIsqrt (tCons te tNil)) σ H (.int (Float64.isqrt n : Nat)) := fun H1 e Q q => h H1 e _ fun H2 e2 => ⟨n, rfl, hn, q H2 e2⟩
theorem q_augR {i : Nat} {r : R2} {a : V} (hx : σ[i]? = some (some a)) (h : Ev te σ H y) (hr : RV r a y H z) (k : ∀ H1, Ex H H1 → tz D (σ.set i (some z)) H1) : tSeq (tAug i te r) tz D σ H :=
  ⟨a, hx, h H (Ex.refl H) _ fun H1 e => hr H1 e _ fun H2 e2 => k H2 (e.trans e2)⟩
theorem s_augR {i : Nat} {r : R2} {a : V} (hx : σ[i]? = some (some a)) (h : Ev te σ H y) (hr : RV r a y H z) (k : ∀ H1, Ex H H1 → D.nx (σ.set i (some z)) H1) : tAug i te r D σ H :=
  ⟨a, hx, h H (Ex.refl H) _ fun H1 e => hr H1 e _ fun H2 e2 => k H2 (e.trans e2)⟩
theorem ev_sum {ns : List Int} (h : EvL te σ H (ns.map V.int)) : Ev (tCB (rSum K) (tCons te tNil)) σ H (.int ns.sum) := fun H1 e Q q => h H1 e _ fun p H2 _ e2 h2 => ⟨p, ns, rfl, sq_of h2, q H2 e2⟩
theorem ev_reprL {ns : List Int} (h : EvL te σ H (ns.map V.int)) (hb : ∀ n ∈ ns, n.natAbs.log2 < 1920) (hz : (reprInts ns).length ≤ sizeLine) : Ev (tCB (rReprL K) (tCons te tNil)) σ H (.str (reprInts ns)) := fun H1 e Q q => h H1 e _ fun p H2 _ e2 h2 => ⟨p, ns, rfl, h2, hb, hz, q H2 e2⟩
theorem wmul {i j : Int} (hi : i.natAbs < 2 ^ 1000) (hj : j.natAbs < 2 ^ 1000) : CMulW i j := wide_mul hi hj (by decide) (by decide) (by decide)
end
end My

set_option Elab.async false
set_option linter.all false
set_option maxRecDepth 100000
set_option maxHeartbeats 4000000
namespace My
open PySem PySem.Spec PyProof.Rows L2 Evl
structure TT (mg : Str → Option Value) : Prop where
  len : mg "len" = none
  int_ : mg "int" = none
  bool_ : mg "bool" = none
  str_ : mg "str" = none
  list_ : mg "list" = none
  tuple_ : mg "tuple" = none
  range : mg "range" = none
  max : mg "max" = none
  min : mg "min" = none
  sum : mg "sum" = none
  isinstance : mg "isinstance" = none
  sorted : mg "sorted" = none
  repr : mg "repr" = none
  abs : mg "abs" = none
  enumerate : mg "enumerate" = none
/-- a loop over a text's signs -/
theorem for_str {x : Str} {g : TG} {tb : TS} {D : Ends} {σ : L2.St} {H : Hp} (Pv : Nat → L2.St → Hp → Prop) (h0 : Pv 0 σ H)
    (hs : ∀ i c σ H, x.cps[i]? = some c → Pv i σ H → g (.str ⟨#[c]⟩) σ H fun σ2 H2 => tb { D with nx := Pv (i + 1), ct := Pv (i + 1), bk := D.nx } σ2 H2) (hd : ∀ σ H, Pv x.cps.size σ H → D.nx σ H) :
    ∃ W : Nat → Nat → L2.St → Hp → Prop, (∃ m, W 0 m σ H) ∧ ∀ i m σ H, W i m σ H →
      ((Its x).stop i H ∧ D.nx σ H) ∨ ((Its x).go i H ∧ ∃ N : L2.St → Hp → Prop, (∀ σ' H', N σ' H' → ∃ m', m' < m ∧ W (i + 1) m' σ' H') ∧ ∀ y H', (Its x).yld i H y H' → g y σ H' fun σ2 H2 => tb { D with nx := N, ct := N, bk := D.nx } σ2 H2) := by
  refine ⟨fun i m σ H => m = x.cps.size - i ∧ i ≤ x.cps.size ∧ Pv i σ H, ⟨x.cps.size, by simp, Nat.zero_le _, h0⟩, ?_⟩
  rintro i m σ H ⟨rfl, hi, p⟩
  by_cases hlt : i < x.cps.size
  · refine .inr ⟨hlt, Pv (i + 1), fun σ' H' p' => ⟨x.cps.size - (i + 1), by omega, rfl, hlt, p'⟩, fun y H' z => ?_⟩
    obtain ⟨e, c, hc, rfl⟩ := z
    subst e
    exact hs i c σ _ hc p
  · have e : i = x.cps.size := by omega
    subst e
    exact .inl ⟨Nat.le_refl _, hd σ H p⟩
theorem q_forS {x : Str} {tl : TE} {g : TG} {D : Ends} {σ : L2.St} {H : Hp} {tu tz : TS} (h : Ev tl σ H (.str x)) (Pv : Nat → L2.St → Hp → Prop) (h0 : ∀ H1, Ex H H1 → Pv 0 σ H1)
    (hs : ∀ i c σ' H', x.cps[i]? = some c → Pv i σ' H' → g (.str ⟨#[c]⟩) σ' H' fun σ2 H2 => tu { D with nx := Pv (i + 1), ct := Pv (i + 1), bk := tz D } σ2 H2) (hd : ∀ σ' H', Pv x.cps.size σ' H' → tz D σ' H') : tSeq (tFor (iStr tl) g tu) tz D σ H :=
  h H (Ex.refl H) _ fun H1 e => ⟨x, rfl, for_str (D := { D with nx := tz D }) Pv (h0 H1 e) hs hd⟩
theorem vals_rev {zs : List V} {ws : List Value} (r : Vals zs ws) : Vals zs.reverse ws.reverse := by
  induction r with
  | nil => exact .nil
  | cons a r ih => rw [List.reverse_cons, List.reverse_cons]; exact ih.append (.cons a .nil)
/-! ### lists of ints in the heap -/
theorem get_map {ns : List Int} {i : Nat} {x : V} (h : (ns.map V.int)[i]? = some x) : ∃ z, ns[i]? = some z ∧ x = .int z := by
  rw [List.getElem?_map] at h
  cases e : ns[i]? with
  | none => rw [e] at h; cases h
  | some z => rw [e] at h; exact ⟨z, rfl, (Option.some.inj h).symm⟩
theorem drop_get {α : Type} {l : List α} {i : Nat} {x : α} (h : l[i]? = some x) : l.drop i = x :: l.drop (i + 1) := by
  obtain ⟨hi, e⟩ := List.getElem?_eq_some_iff.mp h
  rw [List.drop_eq_getElem_cons hi, e]
theorem at_map {ns : List Int} {i : Int} {z : Int} (h0 : 0 ≤ i) (h : ns[i.toNat]? = some z) : atI (ns.map V.int) i = some (.int z) := by
  have hi : i.toNat < ns.length := (List.getElem?_eq_some_iff.mp h).1
  have e : ixN (ns.map V.int).length i = some i.toNat := by
    unfold ixN
    rw [List.length_map, if_pos h0, if_pos (by omega)]
  unfold atI
  rw [e]
  show (ns.map V.int)[i.toNat]? = _
  rw [List.getElem?_map, h]
  rfl
/-! ### a cell -/
def seedF (ns : List Int) : Int := ns.foldl (fun s c => (s * 31 + c % 1000003) % 1000003) 17
def cellF (ns : List Int) (k : Int) : Int := if k < (ns.length : Int) then ns.getD k.toNat 0 else ((seedF ns + 7) * (k + 3) * 69621) % 2147483647
/-! ### digits -/
def digA : Int → List Int → List Int
  | _, [] => []
  | r, s :: ss => r % s :: digA (r / s) ss
def digB : Int → Int → List Int → List Int
  | _, _, [] => []
  | seed, k, s :: ss =>
    let seed' := (seed * 48271 + 974711 * k + 12345) % 2147483647
    let twice := (seed' * (seed' / 65537 + 3)) % 2147483629
    (twice / 19 % s) :: digB seed' (k + 1) ss
def digitsF (c : Int) (ss : List Int) : List Int := if 1000000000000000000 ≤ c then digA (c - 1000000000000000000) ss else digB (c % 2147483629) 0 ss
theorem digA_len : ∀ (r : Int) (ss : List Int), (digA r ss).length = ss.length
  | _, [] => rfl
  | r, s :: ss => by simp [digA, digA_len]
theorem digB_len : ∀ (r k : Int) (ss : List Int), (digB r k ss).length = ss.length
  | _, _, [] => rfl
  | r, k, s :: ss => by simp [digB, digB_len]
theorem digits_len (c : Int) (ss : List Int) : (digitsF c ss).length = ss.length := by
  unfold digitsF; split
  · exact digA_len _ _
  · exact digB_len _ _ _
/-- each digit is from 0 to its size, without it -/
def Within : List Int → List Int → Prop
  | [], [] => True
  | d :: ds, s :: ss => (0 ≤ d ∧ d < s) ∧ Within ds ss
  | _, _ => False
theorem digA_in : ∀ (r : Int) (ss : List Int), (∀ s ∈ ss, 0 < s) → Within (digA r ss) ss
  | _, [], _ => trivial
  | r, s :: ss, h => ⟨⟨Int.emod_nonneg _ (by have := h s List.mem_cons_self; omega), Int.emod_lt_of_pos _ (h s List.mem_cons_self)⟩, digA_in _ ss fun z hz => h z (List.mem_cons_of_mem _ hz)⟩
theorem digB_in : ∀ (r k : Int) (ss : List Int), (∀ s ∈ ss, 0 < s) → Within (digB r k ss) ss
  | _, _, [], _ => trivial
  | r, k, s :: ss, h => ⟨⟨Int.emod_nonneg _ (by have := h s List.mem_cons_self; omega), Int.emod_lt_of_pos _ (h s List.mem_cons_self)⟩, digB_in _ _ ss fun z hz => h z (List.mem_cons_of_mem _ hz)⟩
theorem digits_in (c : Int) (ss : List Int) (h : ∀ s ∈ ss, 0 < s) : Within (digitsF c ss) ss := by
  unfold digitsF; split
  · exact digA_in _ _ h
  · exact digB_in _ _ _ h
theorem et_yes {σ : L2.St} {H : Hp} : EvT tYes σ H true := fun H1 _ Q q => q H1 (Ex.refl H1)
theorem Within.get : ∀ {ds ss : List Int}, Within ds ss → ∀ i, i < ss.length → 0 ≤ ds.getD i 0 ∧ ds.getD i 0 < ss.getD i 0
  | [], [], _, i, h => absurd h (Nat.not_lt_zero i)
  | d :: ds, s :: ss, h, 0, _ => h.1
  | d :: ds, s :: ss, h, i + 1, hi => h.2.get i (by simpa using hi)
  | [], _ :: _, h, _, _ => h.elim
  | _ :: _, [], h, _, _ => h.elim
theorem Within.len : ∀ {ds ss : List Int}, Within ds ss → ds.length = ss.length
  | [], [], _ => rfl
  | _ :: _, _ :: _, h => congrArg Nat.succ h.2.len
  | [], _ :: _, h => h.elim
  | _ :: _, [], h => h.elim
theorem at_d {rs : List Int} {i : Nat} (h : i < rs.length) : atI (rs.map V.int) (i : Int) = some (.int (rs.getD i 0)) := at_map (by omega) (by
  rw [Int.toNat_natCast, List.getD_eq_getElem?_getD, List.getElem?_eq_getElem h]; rfl)
theorem pow_mono (b : Nat) (hb : 1 ≤ b) {i j : Nat} (h : i ≤ j) : ((b : Int)) ^ i ≤ (b : Int) ^ j := by
  have := Nat.pow_le_pow_right hb h
  have h2 : ((b ^ i : Nat) : Int) ≤ ((b ^ j : Nat) : Int) := Int.ofNat_le.mpr this
  rwa [Int.natCast_pow, Int.natCast_pow] at h2
theorem flat_ints (ns : List Int) : (ns.map V.int).all flatV = true := by
  rw [List.all_eq_true]
  intro x hx
  obtain ⟨z, _, rfl⟩ := List.mem_map.mp hx
  rfl
theorem in_ints (z : Int) (ns : List Int) : inV (.int z) (ns.map V.int) = decide (z ∈ ns) := by
  unfold inV
  induction ns with
  | nil => simp
  | cons a ns ih =>
    rw [List.map_cons, List.any_cons, ih]
    have : eqV (.int a) (.int z) = (a == z) := rfl
    rw [this]
    by_cases h : a = z
    · subst h; simp
    · have h2 : ¬ z = a := fun e => h e.symm
      simp [h, h2]
theorem given_map {α : Type} (xs : List α) (d : α) (g : α → V) (v : Nat → V) (h : ∀ i, i < xs.length → v i = g (xs.getD i d)) : given xs.length (fun _ => true) v = xs.map g := by
  unfold given
  rw [List.filter_eq_self.mpr (fun _ _ => rfl)]
  refine List.ext_getElem (by simp) fun i h1 h2 => ?_
  rw [List.getElem_map, List.getElem_map, List.getElem_range]
  rw [List.length_map] at h2
  rw [h i h2, List.getD_eq_getElem?_getD, List.getElem?_eq_getElem h2]
  rfl
/-- a call whose answer is one of several -/
theorem q_call {σ : L2.St} {H : Hp} {i : Nat} {sp : Sp} {dvs vs : List V} {E : XK} {ta : TA} {D : Ends} {tz : TS} (h : EvA ta σ H vs) (hs : ∀ H1, Ex H H1 → sp (vs ++ dvs) H1 (fun x H2 => tz D (σ.set i (some x)) H2) E) : tSeq (tAsg (tCall sp dvs E ta) (gName i)) tz D σ H :=
  h H (Ex.refl H) _ fun H1 e1 => hs H1 e1
/-- [x] * n -/
theorem el_rep {σ : L2.St} {H : Hp} {ta tb : TE} {xs : List V} {k : Int} (ha : EvL ta σ H xs) (hb : ∀ H1, Ex H H1 → Ev tb σ H1 (.int k)) (h0 : 0 ≤ k) (h1 : xs.length * k.toNat ≤ 100000) (h2 : k < 2 ^ 63) : EvL (tOp rRep ta tb) σ H (List.replicate k.toNat xs).flatten := fun H1 e Q q =>
  ha H1 e _ fun p H2 hp e2 h2' => hb H2 (e.trans e2) H2 (Ex.refl H2) _ fun H3 e3 => ⟨p, k, xs, rfl, rfl, e3 p _ h2', by omega, h2, sz_of h1, fun l hl => q l _ (fresh_back (e2.trans e3) hl) ((e2.trans e3).trans (Ex.new hl)) upd_same⟩
/-- a call with a new list as its second argument, its answer a new list -/
theorem q_call2L {σ : L2.St} {H : Hp} {i : Nat} {x : V} {xs ys : List V} {sp : Sp} {E : XK} {ta tb : TE} {D : Ends} {tz : TS} (ha : Ev ta σ H x) (hb : EvL tb σ H xs) (hs : ∀ p H1, H1 p = some (.lst xs) → Ex H H1 → SpL sp [x, .ref p] H1 ys)
    (k : ∀ p H1, H p = none → Ex H H1 → H1 p = some (.lst ys) → tz D (σ.set i (some (.ref p))) H1) : tSeq (tAsg (tCall sp [] E (tCons ta (tCons tb tNil))) (gName i)) tz D σ H :=
  ha H (Ex.refl H) _ fun H1 e1 => hb H1 e1 _ fun p H2 hp e2 h2 => hs p H2 h2 (e1.trans e2) H2 (Ex.refl H2) _ (fun r H3 hr e3 h3 => k r H3 (fresh_back (e1.trans e2) hr) ((e1.trans e2).trans e3) h3) E
theorem ev_callL2 {σ : L2.St} {H : Hp} {x z : V} {xs : List V} {sp : Sp} {E : XK} {ta tb : TE} (ha : Ev ta σ H x) (hb : EvL tb σ H xs) (hs : ∀ p H1, H1 p = some (.lst xs) → Ex H H1 → SpV sp [x, .ref p] H1 z) : Ev (tCall sp [] E (tCons ta (tCons tb tNil))) σ H z := fun H0 e0 Q q =>
  ha H0 e0 _ fun H1 e1 => hb H1 (e0.trans e1) _ fun p H2 hp e2 h2 => hs p H2 h2 ((e0.trans e1).trans e2) H2 (Ex.refl H2) Q (fun H3 e3 => q H3 ((e1.trans e2).trans e3)) E
theorem ev_callL1 {σ : L2.St} {H : Hp} {y z : V} {xs : List V} {sp : Sp} {E : XK} {ta tb : TE} (ha : EvL ta σ H xs) (hb : ∀ H1, Ex H H1 → Ev tb σ H1 y) (hs : ∀ p H1, H1 p = some (.lst xs) → Ex H H1 → SpV sp [.ref p, y] H1 z) : Ev (tCall sp [] E (tCons ta (tCons tb tNil))) σ H z := fun H0 e0 Q q =>
  ha H0 e0 _ fun p H1 hp e1 h1 => hb H1 (e0.trans e1) H1 (Ex.refl H1) _ fun H2 e2 => hs p H2 (e2 p _ h1) ((e0.trans e1).trans e2) H2 (Ex.refl H2) Q (fun H3 e3 => q H3 ((e1.trans e2).trans e3)) E
theorem ea_consNL {σ : L2.St} {H : Hp} {te : TE} {xs : List V} (h : EvL te σ H xs) (Q : List V → Hp → Prop) (q : ∀ p H2, H p = none → Ex H H2 → H2 p = some (.lst xs) → Q [.ref p] H2) : tCons te tNil σ H Q := h H (Ex.refl H) _ fun p H2 hp e h2 => q p H2 hp e h2
theorem kit_int_int {K : PySem.W.Frag} : PySem.W.kitOne K (.type "int") (.type "int") = some true := by rfl
theorem kit_int_bool {K : PySem.W.Frag} : PySem.W.kitOne K (.type "int") (.type "bool") = some false := by rfl
theorem kit_str_str {K : PySem.W.Frag} : PySem.W.kitOne K (.type "str") (.type "str") = some true := by rfl
def OkSizes (ss : List Int) : Prop := ss.length ≤ 10000 ∧ ∀ s ∈ ss, 0 < s ∧ s < 2 ^ 64
theorem divw {i j : Int} (h0 : 0 < j) (h : j < 2 ^ 64) : CDivW i j := wide_div (b := 64) h0 (by omega) (by decide) (by decide)
def spWhole : Sp := fun vs H Q _ => ∃ m : Int, vs = [.int m] ∧ RetV (.bl true) H Q
theorem sv_whole {m : Int} {H : Hp} : SpV spWhole [.int m] H (.bl true) := fun H1 _ Q q _ => ⟨m, rfl, q⟩
section
variable {K : PySem.W.Frag}
def spCellF (K : PySem.W.Frag) : Sp := fun vs H Q _ => ∃ (a : Addr) (ns : List Int) (k : Int), vs = [.ref a, .int k] ∧ SqL K H a (ns.map V.int) ∧ 0 ≤ k ∧ k ≤ 1000000 ∧ RetV (.int (cellF ns k)) H Q
theorem sv_cell {a : Addr} {ns : List Int} {k : Int} {H : Hp} (hS : SqL K H a (ns.map V.int)) (h0 : 0 ≤ k) (h1 : k ≤ 1000000) : SpV (spCellF K) [.ref a, .int k] H (.int (cellF ns k)) := fun H1 e Q q _ => ⟨a, ns, k, rfl, ex_l e hS, h0, h1, q⟩
def spDigits (K : PySem.W.Frag) : Sp := fun vs H Q _ => ∃ (c : Int) (b : Addr) (ss : List Int), vs = [.int c, .ref b] ∧ SqL K H b (ss.map V.int) ∧ OkSizes ss ∧ RetL ((digitsF c ss).map V.int) H Q
theorem sl_digits {c : Int} {b : Addr} {ss : List Int} {H : Hp} (hS : SqL K H b (ss.map V.int)) (ok : OkSizes ss) : SpL (spDigits K) [.int c, .ref b] H ((digitsF c ss).map V.int) := fun H1 e Q q _ => ⟨c, b, ss, rfl, ex_l e hS, ok, fun p H2 hp e2 h2 => q p H2 hp e2 h2⟩
theorem pos_of {ss : List Int} (h : OkSizes ss) : ∀ s ∈ ss, 0 < s := fun s hs => (h.2 s hs).1
end
end My

set_option Elab.async false
set_option linter.all false
set_option maxRecDepth 100000
set_option maxHeartbeats 4000000
namespace My
open PySem PySem.Spec PyProof.Rows L2 Evl
open SX (S S_len S_cat S_beq S_beq_eq S_inj S_tl)
/-! ### texts as lists of code points -/
def cutL {α : Type} (l : List α) (lo hi : Option Int) : List α := (l.drop (HT.sIx l.length 0 lo)).take (HT.sIx l.length l.length hi - HT.sIx l.length 0 lo)
theorem cutV_L (xs : List V) (lo hi : Option Int) : cutV xs lo hi = cutL xs lo hi := rfl
theorem cutS_S (l : List Nat) (lo hi : Option Int) : cutS (S l) lo hi = S (cutL l lo hi) := by
  unfold cutS cutL
  rw [S_len]
theorem sIx_pos {n d : Nat} {i : Int} (h : 0 ≤ i) : HT.sIx n d (some i) = min i.toNat n := by
  show (if i < 0 then _ else min i.toNat n) = _
  rw [if_neg (by omega)]
theorem cutL_to {α : Type} {l : List α} {i : Int} (h : 0 ≤ i) : cutL l none (some i) = l.take i.toNat := by
  unfold cutL
  rw [sIx_pos h, HT.sIx_none, List.drop_zero, Nat.sub_zero]
  rw [List.take_eq_take_iff]
  omega
theorem cutL_from {α : Type} {l : List α} {i : Int} (h : 0 ≤ i) : cutL l (some i) none = l.drop i.toNat := by
  unfold cutL
  rw [sIx_pos h, HT.sIx_none]
  by_cases c : i.toNat ≤ l.length
  · rw [Nat.min_eq_left c]
    apply List.take_of_length_le
    rw [List.length_drop]
    omega
  · rw [Nat.min_eq_right (by omega), List.drop_length, List.drop_eq_nil_of_le (by omega)]
    simp
theorem cutL_mid {α : Type} {l : List α} {i j : Int} (h : 0 ≤ i) (hj : 0 ≤ j) : cutL l (some i) (some j) = (l.drop i.toNat).take (j.toNat - i.toNat) := by
  unfold cutL
  rw [sIx_pos h, sIx_pos hj]
  by_cases c : i.toNat ≤ l.length
  · rw [Nat.min_eq_left c, List.take_eq_take_iff, List.length_drop]
    omega
  · have e : min i.toNat l.length = l.length := Nat.min_eq_right (by omega)
    rw [e, List.drop_length, List.drop_eq_nil_of_le (show l.length ≤ i.toNat by omega)]
    simp
theorem cutL_map {α β : Type} (f : α → β) (l : List α) (lo hi : Option Int) : cutL (l.map f) lo hi = (cutL l lo hi).map f := by
  unfold cutL
  rw [List.length_map, List.map_take, List.map_drop]
theorem cutL_len {α : Type} (l : List α) (lo hi : Option Int) : (cutL l lo hi).length ≤ l.length := by
  unfold cutL
  rw [List.length_take, List.length_drop]
  omega
section
variable {X : Cx}
/-- a text times an int -/
def rRepS : R2 := fun x y H Q => ∃ (l : List Nat) (k : Int), x = .str (S l) ∧ y = .int k ∧ 0 ≤ k ∧ k ≤ 1000000 ∧ l.length * k.toNat ≤ 1000000 ∧ Q (.str (S (List.replicate k.toNat l).flatten)) H
theorem fold_app (l : List Nat) : ∀ (n : Nat) (acc : Array Nat), List.foldl (· ++ ·) acc (List.replicate n l.toArray) = acc ++ (List.replicate n l).flatten.toArray
  | 0, acc => by simp
  | n + 1, acc => by
    rw [List.replicate_succ, List.foldl_cons, fold_app l n, List.replicate_succ, List.flatten_cons]
    simp
theorem op_repS : OpR X (binaryOp .Mult) rRepS := by
  intro pins s σ H x y v u Q I rx ry h
  obtain ⟨l, k, rfl, rfl, h0, h1, hz, q⟩ := h
  obtain ⟨t, rfl⟩ := rx
  obtain ⟨t2, rfl⟩ := ry
  have hl : (S l).length = l.length := S_len l
  have hr : (decide (k < -(2 ^ 63 : Int)) || decide (k ≥ 2 ^ 63)) = false := by
    rw [decide_eq_false (by omega), decide_eq_false (by omega)]; rfl
  refine PySem.P.mul_str hr (fun n1 n2 => ?_) (fun n1 n2 => ?_) ?_
  · rw [hl]
    have a : (l.length : Int) ≤ 1000000 := by
      have : l.length * 1 ≤ l.length * k.toNat := Nat.mul_le_mul_left _ (by omega)
      omega
    have b : (1000000 : Int) ≤ (2 ^ 63 - 1) / k := (Int.le_ediv_iff_mul_le (by omega)).mpr (by omega)
    omega
  · rw [hl]
    show decide (l.length * k.toNat > sizeLine) = false
    have : sizeLine = 16777216 := rfl
    exact decide_eq_false (by omega)
  · by_cases c : k < 1
    · rw [if_pos c]
      have k0 : k.toNat = 0 := by omega
      rw [k0] at q
      exact ⟨by decide, ⟨.str (S []), H, I.tok _, ⟨_, rfl⟩, q⟩⟩
    · rw [if_neg c]
      by_cases d : (k == 1 || (S l).length == 0) = true
      · rw [if_pos d]
        have e : (List.replicate k.toNat l).flatten = l := by
          rw [Bool.or_eq_true] at d
          rcases d with d | d
          · have : k = 1 := by simpa using d
            subst this
            simp
          · have : l = [] := by
              rw [hl] at d
              exact List.length_eq_zero_iff.mp (by simpa using d)
            subst this
            simp
        rw [e] at q
        exact ⟨.str (S l), H, I, ⟨_, rfl⟩, q⟩
      · rw [if_neg d]
        have e : (⟨(List.replicate k.toNat (S l).cps).foldl (· ++ ·) #[]⟩ : PySem.Str) = S (List.replicate k.toNat l).flatten := by
          show PySem.Str.mk _ = PySem.Str.mk _
          rw [fold_app l]
          simp
        rw [e]
        refine ⟨?_, ⟨.str _, H, I.tok _, ⟨_, rfl⟩, q⟩⟩
        rw [S_len, List.length_flatten]
        have : sizeLine = 16777216 := rfl
        have e2 : (List.map List.length (List.replicate k.toNat l)).sum = k.toNat * l.length := by simp
        rw [e2, Nat.mul_comm]
        omega
end
/-! ### readings -/
abbrev rAddS : R2 := fun x y H Q => ∃ i j, x = .str i ∧ y = .str j ∧ i.length + j.length ≤ sizeLine ∧ Q (.str (i ++ j)) H
abbrev rJoin (K : PySem.W.Frag) : V → List V → Hp → VK → Prop := fun x xs H Q => ∃ a p, ∃ ys : List Str, x = .str a ∧ xs = [.ref p] ∧ (SqL K H p (ys.map V.str) ∨ SqT K H p (ys.map V.str)) ∧
    (ys.map (·.length)).sum + ys.length * a.length ≤ 16777216 ∧ Q (.str (Txt.join a ys)) H
abbrev sV (ls : List (List Nat)) : List V := ls.map fun l => V.str (S l)
section
variable {K : PySem.W.Frag} {σ : L2.St} {H : Hp} {ta tb te : TE} {x y z v : V} {D : Ends} {tu tz : TS} {tl th : TO}
theorem rv_addS {a b : List Nat} (h : a.length + b.length ≤ 1000000) : RV rAddS (.str (S a)) (.str (S b)) H (.str (S (a ++ b))) := fun H1 _ Q q =>
  ⟨S a, S b, rfl, rfl, by rw [S_len, S_len]; have : sizeLine = 16777216 := rfl; omega, by rw [S_cat]; exact q H1 (Ex.refl H1)⟩
theorem rv_repS {l : List Nat} {k : Int} (h0 : 0 ≤ k) (h1 : k ≤ 1000000) (hz : l.length * k.toNat ≤ 1000000) : RV rRepS (.str (S l)) (.int k) H (.str (S (List.replicate k.toNat l).flatten)) := fun H1 _ Q q => ⟨l, k, rfl, rfl, h0, h1, hz, q H1 (Ex.refl H1)⟩
theorem rv_ixSS {l : List Nat} {i : Int} {c : Nat} (h : l.length ≤ 100000) (ha : atI l i = some c) : RV rIxS (.str (S l)) (.int i) H (.str (S [c])) := rv_ixS (by rw [S_len]; exact h) (by simpa using ha)
theorem ev_slS {l : List Nat} {lo hi : Option Int} (h : Ev te σ H (.str (S l))) (h1 : EvO tl σ H lo) (h2 : EvO th σ H hi) (hz : l.length ≤ 1000000) : Ev (tSl rSlS te tl th) σ H (.str (S (cutL l lo hi))) := fun H1 e Q q =>
  h H1 e _ fun H2 e2 => h1 H2 (e.trans e2) _ fun H3 e3 => h2 H3 ((e.trans e2).trans e3) _ fun H4 e4 => ⟨S l, rfl, by rw [S_len]; have : sizeLine = 16777216 := rfl; omega, by
    rw [cutS_S]
    exact q H4 ((e2.trans e3).trans e4)⟩
theorem ev_lenSS {l : List Nat} (ha : Ev ta σ H (.str (S l))) (hs : l.length ≤ 1000000) : Ev (tCB (fun xs H Q => ∃ z : Str, xs = [.str z] ∧ z.length ≤ sizeLine ∧ Q (.int z.length) H) (tCons ta tNil)) σ H (.int (l.length : Int)) := by
  have h := ev_lenStr (s := S l) ha (by rw [S_len]; have : sizeLine = 16777216 := rfl; omega)
  rw [S_len] at h
  exact h
theorem joinL_nil : ∀ ls : List (List Nat), TL.joinL [] ls = ls.flatten
  | [] => rfl
  | [p] => by simp [TL.joinL]
  | p :: q :: r => by
    rw [TL.joinL, joinL_nil (q :: r)]
    simp
theorem sum_le {ls : List (List Nat)} {n : Nat} (h : ∀ l ∈ ls, l.length ≤ n) : (ls.map List.length).sum ≤ ls.length * n := by
  induction ls with
  | nil => simp
  | cons l ls ih =>
    have a := ih fun m hm => h m (List.mem_cons_of_mem _ hm)
    have b := h l List.mem_cons_self
    rw [List.map_cons, List.sum_cons, List.length_cons, Nat.succ_mul]
    omega
/-- ''.join(xs), xs a new list -/
theorem ev_joinL {ls : List (List Nat)} (ho : Ev ta σ H (.str (S []))) (hb : EvL tb σ H (sV ls)) (hz : (ls.map List.length).sum ≤ 1000000) : Ev (tM1 (rJoin K) ta tb) σ H (.str (S ls.flatten)) := fun H1 e Q q =>
  ho H1 e _ fun H2 e2 => ⟨⟨_, rfl⟩, hb H2 (e.trans e2) _ fun p H3 hp e3 h3 => ⟨S [], p, ls.map S, rfl, rfl, Or.inl (by rw [List.map_map]; exact sq_of h3), by
    rw [SX.lens, List.length_map]
    have : (S ([] : List Nat)).length = 0 := rfl
    rw [this, Nat.mul_zero]
    exact Nat.le_trans hz (by decide), by
    rw [SX.join_S, joinL_nil]
    exact q H3 (e2.trans e3)⟩⟩
end
/-! ### a dict whose keys are texts that were met -/
def DW (H : Hp) (d : Addr) (ws : List (List Nat)) : Prop := ∃ kvs, H d = some (.dK kvs) ∧ kvs.length ≤ ws.length ∧ ∀ w, (valV kvs (Sum.inr (S w))).isSome = decide (w ∈ ws)
theorem DW.ex {H H' : Hp} {d : Addr} {ws : List (List Nat)} (h : DW H d ws) (e : Ex H H') : DW H' d ws := by
  obtain ⟨kvs, a, b, c⟩ := h
  exact ⟨kvs, e _ _ a, b, c⟩
theorem DW.upd {H : Hp} {d p : Addr} {o : HO} {ws : List (List Nat)} (h : DW H d ws) (hp : d ≠ p) : DW (upd H p o) d ws := by
  obtain ⟨kvs, a, b, c⟩ := h
  exact ⟨kvs, by rw [upd_ne hp]; exact a, b, c⟩
theorem kV_str (w : List Nat) : (kV (Sum.inr (S w)) : V) = .str (S w) := rfl
section
variable {K : PySem.W.Frag} {σ : L2.St} {H : Hp} {ta tb te : TE} {D : Ends} {tz : TS}
theorem q_dnew {i : Nat} (k : ∀ p H1, H p = none → DW H1 p [] → Ex H H1 → tz D (σ.set i (some (.ref p))) H1) : tSeq (tAsg tDNewK (gName i)) tz D σ H := fun p hp =>
  k p _ hp ⟨[], upd_same, Nat.le_refl _, fun w => by simp [valV_nil]⟩ (Ex.new hp)
theorem ev_din {d : Addr} {w : List Nat} {ws : List (List Nat)} (ha : Ev ta σ H (.str (S w))) (hb : Ev tb σ H (.ref d)) (h : DW H d ws) : Ev (tDIn ta tb) σ H (.bl (decide (w ∈ ws))) := fun H1 e Q q =>
  ha H1 e _ fun H2 e2 => hb H2 (e.trans e2) _ fun H3 e3 => by
    obtain ⟨kvs, h1, h2, h3⟩ := h.ex ((e.trans e2).trans e3)
    exact ⟨d, _, rfl, DGet.k (k := Sum.inr (S w)) h1, by rw [h3]; exact q H3 (e2.trans e3)⟩
theorem ev_dni {d : Addr} {w : List Nat} {ws : List (List Nat)} (ha : Ev ta σ H (.str (S w))) (hb : Ev tb σ H (.ref d)) (h : DW H d ws) : Ev (tDNotIn ta tb) σ H (.bl (!decide (w ∈ ws))) := fun H1 e Q q =>
  ha H1 e _ fun H2 e2 => hb H2 (e.trans e2) _ fun H3 e3 => by
    obtain ⟨kvs, h1, h2, h3⟩ := h.ex ((e.trans e2).trans e3)
    exact ⟨d, _, rfl, DGet.k (k := Sum.inr (S w)) h1, by rw [h3]; exact q H3 (e2.trans e3)⟩
theorem dw_put {d : Addr} {w : List Nat} {ws : List (List Nat)} {v : V} {H : Hp} {kvs : List (Key × V)} (h2 : kvs.length ≤ ws.length) (h3 : ∀ w, (valV kvs (Sum.inr (S w))).isSome = decide (w ∈ ws)) : DW (upd H d (.dK (putK kvs (Sum.inr (S w)) v))) d (w :: ws) := by
  refine ⟨_, upd_same, ?_, fun u => ?_⟩
  · have : (putK kvs (Sum.inr (S w)) v).length ≤ kvs.length + 1 := by
      unfold putK
      split
      · rw [List.length_map]; omega
      · rw [List.length_append]; simp
    rw [List.length_cons]
    omega
  · rw [valV_put]
    by_cases e : u = w
    · subst e; simp
    · have e2 : ¬ (Sum.inr (S u) : Key) = Sum.inr (S w) := fun c => e (S_inj (Sum.inr.inj c))
      rw [if_neg e2, h3]
      simp [e]
/-- d[w] = True; d is not of the first heap -/
theorem s_dput {d : Addr} {w : List Nat} {ws : List (List Nat)} {v : V} (hv : Ev te σ H v) (ho : Ev tb σ H (.ref d)) (hi : Ev ta σ H (.str (S w))) (h : DW H d ws) (hl : ws.length < 100000)
    (k : ∀ H1, Ex H H1 → ∀ kvs, DW (upd H1 d (.dK kvs)) d (w :: ws) → D.nx σ (upd H1 d (.dK kvs))) : sDPut tb ta te D σ H :=
  hv H (Ex.refl H) _ fun H1 e1 => ho H1 e1 _ fun H2 e2 => hi H2 (e1.trans e2) _ fun H3 e3 => by
    obtain ⟨kvs, h1, h2, h3⟩ := h.ex ((e1.trans e2).trans e3)
    exact ⟨d, _, rfl, DPut.k (k := Sum.inr (S w)) h1 (sz_lt (by omega)), k H3 ((e1.trans e2).trans e3) _ (dw_put h2 h3)⟩
theorem q_dput {d : Addr} {w : List Nat} {ws : List (List Nat)} {v : V} (hv : Ev te σ H v) (ho : Ev tb σ H (.ref d)) (hi : Ev ta σ H (.str (S w))) (h : DW H d ws) (hl : ws.length < 100000)
    (k : ∀ H1, Ex H H1 → ∀ kvs, DW (upd H1 d (.dK kvs)) d (w :: ws) → tz D σ (upd H1 d (.dK kvs))) : tSeq (sDPut tb ta te) tz D σ H := s_dput (D := { D with nx := tz D }) hv ho hi h hl k
end
end My

set_option Elab.async false
set_option linter.all false
set_option maxRecDepth 100000
set_option maxHeartbeats 4000000
namespace My
open PySem PySem.Spec PyProof.Rows L2 Evl
open SX (S S_len S_cat S_beq S_beq_eq S_inj S_tl)
/-! ### a <= b < c <= d -/
def tChain3 (r r' r'' : R2) (ta tb tc td : TE) : L2.TT := fun σ H Q => ta σ H fun x H1 => tb σ H1 fun y H2 => r x y H2 fun z H3 => ∃ k, z = .bl k ∧
  (if k = true then tc σ H3 fun w H4 => r' y w H4 fun z2 H5 => ∃ k2, z2 = .bl k2 ∧ (if k2 = true then td σ H5 fun u H6 => r'' w u H6 fun z3 H7 => ∃ k3, z3 = .bl k3 ∧ Q k3 H7 else Q false H5) else Q false H3)
section
variable {X : Cx} {a b c d : Expr} {ta tb tc td : TE} {pos : Pos}
theorem pt_chain3 {op op' op'' : CmpOp} {r r' r'' : R2} (ho : OpR X (compareOp op) r) (ho' : OpR X (compareOp op') r') (ho'' : OpR X (compareOp op'') r'') (ha : PE X a ta) (hb : PE X b tb) (hc : PE X c tc) (hd : PE X d td)
    (hm : lastMarks [op, op', op''] [b, c, d] = false := by with_unfolding_all rfl) : PT X (.Compare a [op, op', op''] [b, c, d] pos) (tChain3 r r' r'' ta tb tc td) := by
  refine ⟨fun pins s σ H Q I h => ?_⟩
  refine isTrue_chain (thn (ha.run pins s σ H _ I h) fun v s1 ⟨x, H1, I1, r1, q1⟩ => test_link (thn (hb.run pins s1 σ H1 _ I1 q1) fun u s2 ⟨y, H2, I2, r2, q2⟩ =>
    thn (ho pins s2 σ H2 x y v u _ I2 r1 r2 q2) fun e s3 ⟨z, H3, I3, r3, k, e0, q3⟩ => ?_)) hm
  subst e0
  cases r3
  refine wpAny_truthy_bool ?_
  cases k with
  | false => exact ite_ff ⟨H3, I3, q3⟩
  | true =>
    refine ite_tt (test_link (thn (hc.run pins s3 σ H3 _ I3 q3) fun w' s4 ⟨w, H4, I4, r4, q4⟩ => thn (ho' pins s4 σ H4 y w u w' _ I4 r2 r4 q4) fun d' s5 ⟨z2, H5, I5, r5, k2, e2, q5⟩ => ?_))
    subst e2
    cases r5
    refine wpAny_truthy_bool ?_
    cases k2 with
    | false => exact ite_ff ⟨H5, I5, q5⟩
    | true =>
      refine ite_tt (test_last (thn (hd.run pins s5 σ H5 _ I5 q5) fun u' s6 ⟨u2, H6, I6, r6, q6⟩ => thn (ho'' pins s6 σ H6 w u2 w' u' _ I6 r4 r6 q6) fun d2 s7 ⟨z3, H7, I7, r7, k3, e3, q7⟩ => ?_))
      subst e3
      cases r7
      exact wpAny_truthy_bool ⟨H7, I7, q7⟩
end
section
variable {K : PySem.W.Frag} {σ : L2.St} {H : Hp} {ta tb tc td te : TE} {x y w u z v : V} {D : Ends} {tu tz : TS}
theorem et_chain3 {r r' r'' : R2} {k1 k2 k3 : Bool} (ha : Ev ta σ H x) (hb : Ev tb σ H y) (hc : Ev tc σ H w) (hd : Ev td σ H u) (h1 : RV r x y H (.bl k1)) (h2 : RV r' y w H (.bl k2)) (h3 : RV r'' w u H (.bl k3)) :
    EvT (tChain3 r r' r'' ta tb tc td) σ H (k1 && (k2 && k3)) := fun H0 e0 Q q => ha H0 e0 _ fun H1 e1 => hb H1 (e0.trans e1) _ fun H2 e2 => h1 H2 ((e0.trans e1).trans e2) _ fun H3 e3 => ⟨k1, rfl, by
    cases k1 with
    | false => exact ite_ff (q H3 ((e1.trans e2).trans e3))
    | true =>
      refine ite_tt (hc H3 (((e0.trans e1).trans e2).trans e3) _ fun H4 e4 => h2 H4 ((((e0.trans e1).trans e2).trans e3).trans e4) _ fun H5 e5 => ⟨k2, rfl, ?_⟩)
      cases k2 with
      | false => exact ite_ff (q H5 ((((e1.trans e2).trans e3).trans e4).trans e5))
      | true => exact ite_tt (hd H5 (((((e0.trans e1).trans e2).trans e3).trans e4).trans e5) _ fun H6 e6 => h3 H6 ((((((e0.trans e1).trans e2).trans e3).trans e4).trans e5).trans e6) _ fun H7 e7 => ⟨k3, rfl, q H7 ((((((e1.trans e2).trans e3).trans e4).trans e5).trans e6).trans e7)⟩)⟩
/-! ### items -/
theorem at_get {α : Type} {l : List α} {i : Int} (h0 : 0 ≤ i) (h1 : i < (l.length : Int)) : ∃ c, atI l i = some c ∧ c ∈ l := by
  obtain ⟨j, rfl⟩ : ∃ j : Nat, i = (j : Int) := ⟨i.toNat, by omega⟩
  have hj : j < l.length := by omega
  exact ⟨l[j], atI_nat (List.getElem?_eq_getElem hj), List.getElem_mem hj⟩
theorem at_str {l : Str} {i : Int} {n : Nat} (hn : l.length = n) (hz : n ≤ 100000) (h0 : 0 ≤ i) (h1 : i < (n : Int)) : ∃ c, RV rIxS (.str l) (.int i) H (.str (S [c])) := by
  obtain ⟨c, hc, _⟩ := at_get (l := l.cps.toList) h0 (by
    have : l.cps.toList.length = l.length := by simp [Str.length]
    omega)
  exact ⟨c, rv_ixS (by omega) hc⟩
theorem at_S {l : List Nat} {i : Int} (hz : l.length ≤ 100000) (h0 : 0 ≤ i) (h1 : i < (l.length : Int)) : ∃ c, c ∈ l ∧ RV rIxS (.str (S l)) (.int i) H (.str (S [c])) := by
  obtain ⟨c, hc, hm⟩ := at_get (l := l) h0 h1
  exact ⟨c, hm, rv_ixSS hz hc⟩
/-- an item of a written list of numbers -/
theorem at_ints {ns : List Int} {i : Int} (P : Int → Prop) (hP : ∀ n ∈ ns, P n) (h0 : 0 ≤ i) (h1 : i < (ns.length : Int)) : ∃ z, atI (ns.map V.int) i = some (.int z) ∧ P z := by
  obtain ⟨c, hc, hm⟩ := at_get (l := ns.map V.int) h0 (by rw [List.length_map]; exact h1)
  obtain ⟨z, hz, rfl⟩ := List.mem_map.mp hm
  exact ⟨z, hc, hP z hz⟩
theorem flat_strs (ls : List (List Nat)) : (sV ls).all flatV = true := by
  rw [List.all_eq_true]
  intro v hv
  obtain ⟨l, _, rfl⟩ := List.mem_map.mp hv
  rfl
theorem el_call2 {xs ys : List V} {sp : Sp} {E : XK} (ha : Ev ta σ H x) (hb : EvL tb σ H xs) (hs : ∀ p H1, H1 p = some (.lst xs) → Ex H H1 → SpL sp [x, .ref p] H1 ys) : EvL (tCall sp [] E (tCons ta (tCons tb tNil))) σ H ys := fun H0 e0 Q q =>
  ha H0 e0 _ fun H1 e1 => hb H1 (e0.trans e1) _ fun p H2 hp e2 h2 => hs p H2 h2 ((e0.trans e1).trans e2) H2 (Ex.refl H2) Q (fun r H3 hr e3 h3 => q r H3 (fresh_back (e1.trans e2) hr) ((e1.trans e2).trans e3) h3) E
theorem ev_ixNew {xs : List V} {i : Int} (ha : EvL ta σ H xs) (hb : ∀ H1, Ex H H1 → Ev tb σ H1 (.int i)) (h : atI xs i = some v) : Ev (tOp (rIxL K) ta tb) σ H v := fun H1 e Q q =>
  ha H1 e _ fun p H2 hp e2 h2 => hb H2 (e.trans e2) H2 (Ex.refl H2) _ fun H3 e3 => ⟨p, xs, i, v, rfl, rfl, sq_of (e3 _ _ h2), h, q H3 (e2.trans e3)⟩
/-- ''.join(sorted(xs)), fewer than 64 -/
theorem ev_joinSorted {p : Addr} {ls : List (List Nat)} {Q : VK} (ho : Ev ta σ H (.str (S []))) (hb : Ev tb σ H (.ref p)) (h : SqL K H p (sV ls)) (h64 : ls.length < 64) (hz : (ls.map List.length).sum ≤ 1000000)
    (q : ∀ (l : List Nat) H2, l.length = (ls.map List.length).sum → Ex H H2 → Q (.str (S l)) H2) : (tM1 (rJoin K) ta (tCB (rSortedS K) (tCons tb tNil))) σ H Q :=
  ho H (Ex.refl H) _ fun H1 e1 => ⟨⟨_, rfl⟩, hb H1 e1 _ fun H2 e2 => ⟨p, ls.map S, rfl, by rw [List.map_map]; exact ex_l (e1.trans e2) h, by rw [List.length_map]; exact h64, fun ys d perm _ hd =>
    ⟨S [], d, ys, rfl, rfl, Or.inl (sq_of upd_same), by
      have e : (S ([] : List Nat)).length = 0 := rfl
      have s := (perm.map (·.length)).sum_nat
      rw [SX.lens] at s
      rw [e, Nat.mul_zero, s]
      exact Nat.le_trans hz (by decide), by
      have e3 : ys = (ys.map fun y => y.cps.toList).map S := by
        rw [List.map_map]
        exact (List.map_id ys).symm.trans (List.map_congr_left fun y _ => (S_tl y).symm)
      have s := (perm.map (·.length)).sum_nat
      rw [SX.lens] at s
      rw [e3] at s ⊢
      rw [SX.join_S, joinL_nil]
      refine q _ _ ?_ ((e1.trans e2).trans (Ex.new hd))
      rw [SX.lens] at s
      rw [List.length_flatten]
      exact s⟩⟩⟩
theorem s_forS {l : List Nat} {tl : TE} {g : TG} (h : Ev tl σ H (.str (S l))) (Pv : Nat → L2.St → Hp → Prop) (h0 : ∀ H1, Ex H H1 → Pv 0 σ H1)
    (hs : ∀ i c σ H, (S l).cps[i]? = some c → Pv i σ H → g (.str ⟨#[c]⟩) σ H fun σ2 H2 => tu { D with nx := Pv (i + 1), ct := Pv (i + 1), bk := D.nx } σ2 H2) (hd : ∀ σ H, Pv (S l).cps.size σ H → D.nx σ H) : tFor (iStr tl) g tu D σ H :=
  h H (Ex.refl H) _ fun H1 e => ⟨S l, rfl, for_str Pv (h0 H1 e) hs hd⟩
end
end My

set_option Elab.async false
set_option linter.all false
set_option maxRecDepth 100000
set_option maxHeartbeats 4000000
namespace My
open PySem PySem.Spec PyProof.Rows L2 Evl
open SX (S S_len S_cat S_beq S_beq_eq S_inj S_tl)
section
variable {K : PySem.W.Frag} {σ : L2.St} {H : Hp} {ta tb tc td te : TE} {x y w u z v : V} {D : Ends} {tu tz : TS} {t : L2.TT}
theorem el_lcR2 {ta : TA} {j : Nat} {vs : List Nat} {lo n : Int} (f : Nat → Bool) (v : Nat → V) (h : EvA ta σ H [.int lo, .int n]) (hn : -10000 ≤ lo ∧ lo ≤ 10000 ∧ n ≤ 10000 ∧ -10000 ≤ n) (hw : ∀ x, wipe ((wipe σ vs).set j (some x)) vs = wipe σ vs)
    (ht : ∀ (i : Nat) H1, Ex H H1 → i < (n - lo).toNat → EvT t ((wipe σ vs).set j (some (.int (lo + (i : Int))))) H1 (f i)) (he : ∀ (i : Nat) H1, Ex H H1 → i < (n - lo).toNat → f i = true → Ev te ((wipe σ vs).set j (some (.int (lo + (i : Int))))) H1 (v i)) :
    EvL (tLc (iRng2 ta) (gName j) t te vs) σ H (given (n - lo).toNat f v) := fun H0 e Q q => h H0 e _ fun H1 e1 => ⟨lo, n, rfl, ⟨by omega, by omega, by omega, by omega⟩, fun Dl hD =>
  lc_range (lo := lo) (n := (n - lo).toNat) (Cw H1 f v Dl) ⟨hD, Ex.new hD, upd_same⟩ (fun i H' hi p => ⟨hw _, cw_turn p (by omega) (ht i H1 (e.trans e1) hi) (fun hf => he i H1 (e.trans e1) hi hf)⟩) (fun H' p => q Dl H' (fresh_back e1 p.1) (e1.trans p.2.1) p.2.2)⟩
theorem lc_str {x : Str} {g : TG} {tt : L2.TT} {te : TE} {vs : List Nat} {σ : L2.St} {H1 : Hp} {D : Addr} {Qd : Hp → Prop} (Pv : Nat → Hp → Prop) (h0 : Pv 0 (upd H1 D (.lst [])))
    (hs : ∀ i c H, x.cps[i]? = some c → Pv i H → g (.str ⟨#[c]⟩) (wipe σ vs) H fun σ2 H2 => wipe σ2 vs = wipe σ vs ∧ tt σ2 H2 fun b H3 =>
      if b = true then te σ2 H3 fun y H4 => ∃ acc, H4 D = some (.lst acc) ∧ acc.length < sizeLine ∧ Pv (i + 1) (upd H4 D (.lst (acc ++ [y]))) else Pv (i + 1) H3) (hd : ∀ H, Pv x.cps.size H → Qd H) :
    ∃ W : Nat → Nat → Hp → Prop, (∃ m, W 0 m (upd H1 D (.lst []))) ∧ ∀ i m H, W i m H →
      ((Its x).stop i H ∧ Qd H) ∨ ((Its x).go i H ∧ ∃ Nx : Hp → Prop, (∀ H', Nx H' → ∃ m', m' < m ∧ W (i + 1) m' H') ∧ ∀ y H', (Its x).yld i H y H' → g y (wipe σ vs) H' fun σ2 H2 => wipe σ2 vs = wipe σ vs ∧ tt σ2 H2 fun b H3 =>
        if b = true then te σ2 H3 fun y H4 => ∃ acc, H4 D = some (.lst acc) ∧ acc.length < sizeLine ∧ Nx (upd H4 D (.lst (acc ++ [y]))) else Nx H3) := by
  refine ⟨fun i m H => m = x.cps.size - i ∧ i ≤ x.cps.size ∧ Pv i H, ⟨x.cps.size, by simp, Nat.zero_le _, h0⟩, ?_⟩
  rintro i m H ⟨rfl, hi, p⟩
  by_cases hlt : i < x.cps.size
  · refine .inr ⟨hlt, Pv (i + 1), fun H' p' => ⟨x.cps.size - (i + 1), by omega, rfl, hlt, p'⟩, fun y H' z => ?_⟩
    obtain ⟨e, c, hc, rfl⟩ := z
    subst e
    exact hs i c _ hc p
  · have e : i = x.cps.size := by omega
    subst e
    exact .inl ⟨Nat.le_refl _, hd H p⟩
theorem el_lcS {l : List Nat} {tl : TE} {j : Nat} {vs : List Nat} (f : Nat → Bool) (v : Nat → V) (h : Ev tl σ H (.str (S l))) (hz : l.length ≤ 40000) (hw : ∀ x, wipe ((wipe σ vs).set j (some x)) vs = wipe σ vs)
    (ht : ∀ (i c : Nat) H1, Ex H H1 → l[i]? = some c → EvT t ((wipe σ vs).set j (some (.str (S [c])))) H1 (f i)) (he : ∀ (i c : Nat) H1, Ex H H1 → l[i]? = some c → f i = true → Ev te ((wipe σ vs).set j (some (.str (S [c])))) H1 (v i)) :
    EvL (tLc (iStr tl) (gName j) t te vs) σ H (given l.length f v) := fun H0 e Q q => h H0 e _ fun H1 e1 => ⟨S l, rfl, fun Dl hD => by
  have hsz : (S l).cps.size = l.length := by simp
  refine lc_str (x := S l) (Cw H1 f v Dl) ⟨hD, Ex.new hD, upd_same⟩ (fun i c H' hi p => ?_) (fun H' p => ?_)
  · have hi2 : l[i]? = some c := by simpa using hi
    have := (List.getElem?_eq_some_iff.mp hi2).1
    exact ⟨hw _, cw_turn p (by omega) (ht i c H1 (e.trans e1) hi2) (fun hf => he i c H1 (e.trans e1) hi2 hf)⟩
  · rw [hsz] at p
    exact q Dl H' (fresh_back e1 p.1) (e1.trans p.2.1) p.2.2⟩
/-- the texts made, as a list -/
theorem given_S (g : Nat → List Nat) : ∀ n, given n (fun _ => true) (fun i => V.str (S (g i))) = sV ((List.range n).map g)
  | 0 => rfl
  | n + 1 => by
    rw [given_yes rfl, given_S g n, List.range_succ, List.map_append]
    show _ = List.map _ (List.map g (List.range n) ++ [g n])
    rw [List.map_append]
    rfl
theorem sum_range (g : Nat → List Nat) (b : Nat) (h : ∀ i, (g i).length ≤ b) (n : Nat) : (((List.range n).map g).map List.length).sum ≤ n * b := by
  have := sum_le (ls := (List.range n).map g) (n := b) fun l hl => by
    obtain ⟨i, _, rfl⟩ := List.mem_map.mp hl
    exact h i
  rw [List.length_map, List.length_range] at this
  exact this
theorem len_range (g : Nat → List Nat) (b : Nat) (h : ∀ i, (g i).length = b) : ∀ n, (((List.range n).map g).flatten).length = n * b
  | 0 => by simp
  | n + 1 => by
    rw [List.range_succ, List.map_append, List.flatten_append, List.length_append, len_range g b h n, Nat.succ_mul]
    simp [h]
theorem len_range_le (g : Nat → List Nat) (b : Nat) (h : ∀ i, (g i).length ≤ b) (n : Nat) : (((List.range n).map g).flatten).length ≤ n * b := by
  rw [List.length_flatten]
  exact sum_range g b h n
end
end My

set_option Elab.async false
set_option linter.all false
set_option maxRecDepth 100000
set_option maxHeartbeats 4000000
namespace My
open PySem PySem.Spec PyProof.Rows L2 Evl
def top (i : Nat) : Stmt := PySem.Challenge.pw_unpressed_k11_unlike_rows_judged.main.body.getD i (.Pass ⟨0, 0, 0, 0⟩)
section
variable {P : Program} {w : World} {K : PySem.W.Frag} {mg : Str → Option Value} {base : Heap}
/-! ### _law_cell -/
abbrev s_law_cell : Stmt := top 3
abbrev N_law_cell : List Str := ["script", "k", "seed", "cell"]
theorem sc_law_cell : FnScope N_law_cell ["script", "k"] (defScope s_law_cell) := ⟨rfl, rfl, rfl, by decide +kernel, rfl, by decide +kernel, by decide +kernel⟩
theorem ok_law_cell (T : TT mg) (F : At K mg "_law_cell" s_law_cell) : Dn P w K mg base 1 "_law_cell" s_law_cell ["script", "k"] (spCellF K) := by
  refine dn_ok F sc_law_cell (fun _ _ _ _ _ _ us hl => match us, hl with | [_, _], _ => rfl) (fun vs H Q E h => ?_) (fun f cdv A outer s H vs Q E hr h => ?_)
  · obtain ⟨a, ns, k, rfl, _⟩ := h; rfl
  · obtain ⟨a, ns, k, rfl, hS, hk, hk2, q⟩ := h
    refine ⟨_, (pss_cons (ps_if (pt_cmpR op_lt (pv 1) (pe_callB call_len_seq (by rfl) T.len boot_len (pa_cons (pv 0) pa_nil)) (nomark _)) (pss_one (ps_ret (pe_ix ix_list (pv 0) (pv 1) (fun _ _ => rfl)))) pss_nil)
      (pss_cons (ps_set (i := 2) sc_law_cell.nd rfl (Or.inl rfl) pe_int)
      (pss_cons (ps_for PassesOwn.never rfl (pi_list (pv 0)) (pg_name (i := 3) sc_law_cell.nd rfl (Or.inl rfl))
        (pss_one (ps_set (i := 2) sc_law_cell.nd rfl (Or.inl rfl) (pe_op op_mod (pe_callTy call_int1 (by rfl) T.int_ (by decide +kernel) (pa_cons (pe_op op_add (pe_op op_mul (pv 2) pe_int) (pe_op op_mod (pe_callTy call_int1 (by rfl) T.int_ (by decide +kernel) (pa_cons (pv 3) pa_nil)) pe_int)) pa_nil)) pe_int))))
      (pss_one (ps_ret (pe_op op_mod (pe_callTy call_int1 (by rfl) T.int_ (by decide +kernel) (pa_cons (pe_op op_mul (pe_op op_mul (pe_op op_add (pv 2) pe_int) (pe_op op_add (pv 1) pe_int)) pe_int) pa_nil)) pe_int)))))), ?_⟩
    refine q_when (et_test (ev_op (ev_var rfl) (ev_len (ev_var rfl) hS) rv_I0)) (fun hb H1 e1 => ?_) (fun hb H1 e1 => ?_)
    · have hlt : k < (ns.length : Int) := by
        have := of_decide_eq_true hb
        rw [List.length_map] at this
        exact this
      have hv : cellF ns k = ns.getD k.toNat 0 := if_pos hlt
      rw [hv] at q
      have hg : ns[k.toNat]? = some (ns.getD k.toNat 0) := by
        rw [List.getD_eq_getElem?_getD, List.getElem?_eq_getElem (by omega)]; rfl
      exact s_ret (ev_op (ev_var rfl) (ev_var rfl) (rv_ixL (ex_l e1 hS) (at_map hk hg))) fun H2 e2 => q H2 (e1.trans e2)
    · have hge : ¬ k < (ns.length : Int) := by
        have := of_decide_eq_false hb
        rw [List.length_map] at this
        exact this
      have hv : cellF ns k = ((seedF ns + 7) * (k + 3) * 69621) % 2147483647 := if_neg hge
      rw [hv] at q
      refine q_asg ev_c fun H2 e2 => ?_
      refine q_forLn (ev_var rfl) (ex_l (e1.trans e2) hS) (fun i σ' H' => ∃ (sd : Int) (v : Option V), σ' = [some (.ref a), some (.int k), some (.int sd), v] ∧ Ex H H' ∧ 0 ≤ sd ∧ sd < 1000003 ∧ (ns.drop i).foldl (fun s c => (s * 31 + c % 1000003) % 1000003) sd = seedF ns)
        (fun H3 e3 => ⟨17, none, rfl, (e1.trans e2).trans e3, by decide, by decide, rfl⟩) (fun i σ' H' _ ⟨_, _, _, e, _⟩ => ex_l e hS) ?_ ?_
      · rintro i x σ' H' hx ⟨sd, v, rfl, e, h0, h1, hf⟩
        obtain ⟨z, hz, rfl⟩ := get_map hx
        rw [drop_get hz, List.foldl_cons] at hf
        refine s_asg (ev_op (ev_int (ev_op (ev_op (ev_var rfl) ev_c (rv_I (by unfold CMul; omega))) (ev_op (ev_int (ev_var rfl)) ev_c (rv_I (by decide))) rv_I0)) ev_c (rv_I (by decide))) fun H4 e4 => ?_
        exact ⟨_, _, rfl, e.trans e4, Int.emod_nonneg _ (by decide), Int.emod_lt_of_pos _ (by decide), hf⟩
      · rintro σ' H' ⟨sd, v, rfl, e, h0, h1, hf⟩
        rw [List.length_map, List.drop_length] at hf
        have hsd : sd = seedF ns := hf
        subst hsd
        exact s_ret (ev_op (ev_int (ev_op (ev_op (ev_op (ev_var rfl) ev_c rv_I0) (ev_op (ev_var rfl) ev_c rv_I0) (rv_I (by unfold CMul; omega))) ev_c (rv_I (by unfold CMul; omega)))) ev_c (rv_I (by decide))) fun H4 e4 => q H4 (e.trans e4)
/-! ### _law_digits -/
abbrev s_law_digits : Stmt := top 4
abbrev N_law_digits : List Str := ["cell", "sizes", "row", "rest", "seed", "k", "size", "twice"]
theorem sc_law_digits : FnScope N_law_digits ["cell", "sizes"] (defScope s_law_digits) := ⟨rfl, rfl, rfl, by decide +kernel, rfl, by decide +kernel, by decide +kernel⟩
theorem ok_law_digits (T : TT mg) (F : At K mg "_law_digits" s_law_digits) : Dn P w K mg base 1 "_law_digits" s_law_digits ["cell", "sizes"] (spDigits K) := by
  refine dn_ok F sc_law_digits (fun _ _ _ _ _ _ us hl => match us, hl with | [_, _], _ => rfl) (fun vs H Q E h => ?_) (fun f cdv A outer s H vs Q E hr h => ?_)
  · obtain ⟨c, b, ss, rfl, _⟩ := h; rfl
  · obtain ⟨c, b, ss, rfl, hS, ⟨hlen, hss⟩, q⟩ := h
    refine ⟨_, (pss_cons (ps_set (i := 2) sc_law_digits.nd rfl (Or.inl rfl) (pe_lst pa_nil))
      (pss_cons (ps_set (i := 3) sc_law_digits.nd rfl (Or.inl rfl) (pe_callTy call_int1 (by rfl) T.int_ (by decide +kernel) (pa_cons (pv 0) pa_nil)))
      (pss_cons (ps_if (pt_cmpR op_ge (pv 3) (pe_op op_pow pe_int pe_int) (nomark _)) (pss_cons (ps_set (i := 3) sc_law_digits.nd rfl (Or.inl rfl) (pe_op op_sub (pv 3) (pe_op op_pow pe_int pe_int)))
        (pss_cons (ps_for PassesOwn.never rfl (pi_list (pv 1)) (pg_name (i := 6) sc_law_digits.nd rfl (Or.inl rfl))
          (pss_cons (ps_expr (pe_bm PySem.F.plainAttrs_list PySem.F.slot_list_append PySem.F.type_list_append mt_append (pv 2) (pa_cons (pe_op op_mod (pe_callTy call_int1 (by rfl) T.int_ (by decide +kernel) (pa_cons (pv 3) pa_nil)) (pv 6)) pa_nil)))
            (pss_one (ps_set (i := 3) sc_law_digits.nd rfl (Or.inl rfl) (pe_op op_fdivW (pe_callTy call_int1 (by rfl) T.int_ (by decide +kernel) (pa_cons (pv 3) pa_nil)) (pv 6))))))
        (pss_one (ps_ret (pv 2))))) pss_nil)
      (pss_cons (ps_set (i := 4) sc_law_digits.nd rfl (Or.inl rfl) (pe_op op_mod (pe_callTy call_int1 (by rfl) T.int_ (by decide +kernel) (pa_cons (pv 3) pa_nil)) pe_int))
      (pss_cons (ps_for PassesOwn.never rfl (pi_range1 (by rfl) T.range (pa_cons (pe_callB call_len_seq (by rfl) T.len boot_len (pa_cons (pv 1) pa_nil)) pa_nil)) (pg_name (i := 5) sc_law_digits.nd rfl (Or.inl rfl))
        (pss_cons (ps_set (i := 4) sc_law_digits.nd rfl (Or.inl rfl) (pe_op op_mod (pe_callTy call_int1 (by rfl) T.int_ (by decide +kernel) (pa_cons (pe_op op_add (pe_op op_add (pe_op op_mul (pv 4) pe_int) (pe_op op_mul pe_int (pv 5))) pe_int) pa_nil)) pe_int))
          (pss_cons (ps_set (i := 7) sc_law_digits.nd rfl (Or.inl rfl) (pe_op op_mod (pe_callTy call_int1 (by rfl) T.int_ (by decide +kernel) (pa_cons (pe_op op_mul (pv 4) (pe_op op_add (pe_op op_fdiv (pv 4) pe_int) pe_int)) pa_nil)) pe_int))
          (pss_one (ps_expr (pe_bm PySem.F.plainAttrs_list PySem.F.slot_list_append PySem.F.type_list_append mt_append (pv 2) (pa_cons (pe_op op_mod (pe_op op_fdiv (pv 7) pe_int) (pe_ix ix_list (pv 1) (pv 5) (fun _ _ => rfl))) pa_nil)))))))
      (pss_one (ps_ret (pv 2)))))))), ?_⟩
    have e18 : (10 : Int) ^ (Int.toNat 18) = 1000000000000000000 := by decide
    have c18 : CPow 10 18 := by unfold CPow; decide
    refine q_asgL (el_lst ea_nil (by decide)) fun l H1 nl e1 h1 => ?_
    refine q_asg (ev_int (ev_var rfl)) fun H2 e2 => ?_
    refine q_when (et_test (ev_op (ev_var rfl) (ev_op ev_c ev_c (rv_I c18)) rv_I0)) (fun hb H3 e3 => ?_) (fun hb H3 e3 => ?_)
    · have hge : 1000000000000000000 ≤ c := by
        have := of_decide_eq_true hb
        rw [e18] at this
        exact this
      have hv : digitsF c ss = digA (c - 1000000000000000000) ss := if_pos hge
      rw [hv] at q
      refine q_asg (ev_op (ev_var rfl) (ev_op ev_c ev_c (rv_I c18)) rv_I0) fun H4 e4 => ?_
      have e14 : Ex H H4 := ((e1.trans e2).trans e3).trans e4
      refine q_forLn (ev_var rfl) (ex_l e14 hS) (fun i σ' H' => ∃ (r : Int) (done : List Int) (v : Option V), σ' = [some (.int c), some (.ref b), some (.ref l), some (.int r), none, none, v, none] ∧ Ex H H' ∧ H' l = some (.lst (done.map V.int)) ∧ done.length = i ∧ done ++ digA r (ss.drop i) = digA (c - 1000000000000000000) ss)
        (fun H5 e5 => ⟨_, [], none, rfl, e14.trans e5, e5 l _ (e4 l _ (e3 l _ (e2 l _ h1))), rfl, by rw [e18]; rfl⟩) (fun i σ' H' _ ⟨_, _, _, _, e, _⟩ => ex_l e hS) ?_ ?_
      · rintro i x σ' H' hx ⟨r, done, v, rfl, e, hl, hd, hf⟩
        obtain ⟨z, hz, rfl⟩ := get_map hx
        have hi := (List.getElem?_eq_some_iff.mp hz).1
        obtain ⟨z0, z1⟩ := hss z (List.mem_of_getElem? hz)
        rw [drop_get hz] at hf
        refine q_app hl (ev_var rfl) (ev_op (ev_int (ev_var rfl)) (ev_var rfl) (rv_I z0)) (by rw [List.length_map]; omega) fun H5 e5 => ?_
        refine s_asg (ev_op (ev_int (ev_var rfl)) (ev_var rfl) (rv_I (divw z0 z1))) fun H6 e6 => ?_
        refine ⟨r / z, done ++ [r % z], _, rfl, (Ex.mut (e.trans e5) nl).trans e6, ?_, by rw [List.length_append]; simp [hd], ?_⟩
        · rw [List.map_append]
          exact e6 l _ upd_same
        · rw [List.append_assoc]
          exact hf
      · rintro σ' H' ⟨r, done, v, rfl, e, hl, hd, hf⟩
        rw [List.length_map, List.drop_length] at hf
        have hf2 : done = digA (c - 1000000000000000000) ss := by rw [← hf]; simp [digA]
        subst hf2
        exact s_ret (ev_var rfl) fun H5 e5 => q l H5 nl (e.trans e5) (e5 l _ hl)
    · have hlt : ¬ 1000000000000000000 ≤ c := by
        have := of_decide_eq_false hb
        rw [e18] at this
        exact this
      have hv : digitsF c ss = digB (c % 2147483629) 0 ss := if_neg hlt
      rw [hv] at q
      refine q_asg (ev_op (ev_int (ev_var rfl)) ev_c (rv_I (by decide))) fun H4 e4 => ?_
      have e14 : Ex H H4 := ((e1.trans e2).trans e3).trans e4
      refine q_forR1 (ea_cons (ev_len (ev_var rfl) (ex_l e14 hS)) ea_nil) ⟨by omega, by rw [List.length_map]; omega⟩ (fun i σ' H' => ∃ (sd : Int) (done : List Int) (v u : Option V), σ' = [some (.int c), some (.ref b), some (.ref l), some (.int c), some (.int sd), v, none, u] ∧ Ex H H' ∧ H' l = some (.lst (done.map V.int)) ∧ done.length = i ∧ 0 ≤ sd ∧ sd < 2147483647 ∧ done ++ digB sd i (ss.drop i) = digB (c % 2147483629) 0 ss)
        (fun H5 e5 => ⟨_, [], none, none, rfl, e14.trans e5, e5 l _ (e4 l _ (e3 l _ (e2 l _ h1))), rfl, Int.emod_nonneg _ (by decide), Int.lt_trans (Int.emod_lt_of_pos _ (by decide)) (by decide), rfl⟩) ?_ ?_
      · rintro i σ' H' hi ⟨sd, done, v, u, rfl, e, hl, hd, h0, h1', hf⟩
        rw [List.length_map] at hi
        obtain ⟨z, hz⟩ : ∃ z, ss[i]? = some z := ⟨_, List.getElem?_eq_getElem (by omega)⟩
        obtain ⟨z0, z1⟩ := hss z (List.mem_of_getElem? hz)
        rw [drop_get hz] at hf
        have hm : 0 ≤ (sd * 48271 + 974711 * (i : Int) + 12345) % 2147483647 := Int.emod_nonneg _ (by decide)
        have hm2 : (sd * 48271 + 974711 * (i : Int) + 12345) % 2147483647 < 2147483647 := Int.emod_lt_of_pos _ (by decide)
        refine q_asg (ev_op (ev_int (ev_op (ev_op (ev_op (ev_var rfl) ev_c (rv_I (by unfold CMul; omega))) (ev_op ev_c (ev_var rfl) (rv_I (by unfold CMul; omega))) rv_I0) ev_c rv_I0)) ev_c (rv_I (by decide))) fun H5 e5 => ?_
        refine q_asg (ev_op (ev_int (ev_op (ev_var rfl) (ev_op (ev_op (ev_var rfl) ev_c (rv_I (by unfold CDiv; decide))) ev_c rv_I0) (rv_I (by unfold CMul; omega)))) ev_c (rv_I (by decide))) fun H6 e6 => ?_
        have e16 : Ex H H6 := (e.trans e5).trans e6
        refine s_app (e6 l _ (e5 l _ hl)) (ev_var rfl) (ev_op (ev_op (ev_var rfl) ev_c (rv_I (by unfold CDiv; decide))) (ev_op (ev_var rfl) (ev_var rfl) (rv_ixL (ex_l e16 hS) (at_map (by omega) (by simpa using hz)))) (rv_I z0)) (by rw [List.length_map]; omega) fun H7 e7 => ?_
        refine ⟨_, done ++ [(sd * 48271 + 974711 * (i : Int) + 12345) % 2147483647 * ((sd * 48271 + 974711 * (i : Int) + 12345) % 2147483647 / 65537 + 3) % 2147483629 / 19 % z], _, _, rfl, Ex.mut (e16.trans e7) nl, ?_, by rw [List.length_append]; simp [hd], hm, hm2, ?_⟩
        · rw [List.map_append]
          exact upd_same
        · rw [List.append_assoc]
          exact hf
      · rintro σ' H' ⟨sd, done, v, u, rfl, e, hl, hd, h0, h1', hf⟩
        have en : ((ss.map V.int).length : Int).toNat = ss.length := by simp
        rw [en, List.drop_length] at hf
        have hf2 : done = digB (c % 2147483629) 0 ss := by rw [← hf]; simp [digB]
        subst hf2
        exact s_ret (ev_var rfl) fun H5 e5 => q l H5 nl (e.trans e5) (e5 l _ hl)
end
end My

set_option Elab.async false
set_option linter.all false
set_option maxRecDepth 100000
set_option maxHeartbeats 4000000
namespace My
open PySem PySem.Spec PyProof.Rows L2 Evl
open SX (S S_len S_cat S_beq S_beq_eq S_inj S_tl)
section
variable {P : Program} {w : World} {K : PySem.W.Frag} {mg : Str → Option Value} {base : Heap}
abbrev L36 : Str := "0123456789abcdefghijklmnopqrstuvwxyz"
theorem L36_len : L36.length = 36 := by decide +kernel
def Sizes (rs : List Int) (n : Nat) (a : Int) : Prop := n ≤ rs.length ∧ ∀ z, rs[0]? = some z → 0 ≤ z ∧ z < a
abbrev s_law_alphabet : Stmt := top 5
abbrev N_law_alphabet : List Str := ["row", "upto", "many", "letters", "taken", "k", "at", "turn"]
theorem sc_law_alphabet : FnScope N_law_alphabet ["row", "upto"] (defScope s_law_alphabet) := ⟨rfl, rfl, rfl, by decide +kernel, rfl, by decide +kernel, by decide +kernel⟩
def spAlp (K : PySem.W.Frag) : Sp := fun vs H Q _ => ∃ (p : Addr) (rs : List Int), vs = [.ref p, .int 6] ∧ SqL K H p (rs.map V.int) ∧ 7 ≤ rs.length ∧ 0 ≤ rs.getD 0 0 ∧ rs.getD 0 0 < 12 ∧ ∀ l : List Nat, 1 ≤ l.length → l.length ≤ 6 → RetV (.str (S l)) H Q
theorem ok_law_alphabet (T : TT mg) (F : At K mg "_law_alphabet" s_law_alphabet) : Dn P w K mg base 1 "_law_alphabet" s_law_alphabet ["row", "upto"] (spAlp K) := by
  refine dn_ok F sc_law_alphabet (fun _ _ _ _ _ _ us hl => match us, hl with | [_, _], _ => rfl) (fun vs H Q E h => ?_) (fun f cdv A outer t H vs Q E hr h => ?_)
  · obtain ⟨p, rs, rfl, _⟩ := h; rfl
  · obtain ⟨p, rs, rfl, hS, h7, h0, h12, q⟩ := h
    refine ⟨_, (pss_cons (ps_set (i := 2) sc_law_alphabet.nd rfl (Or.inl rfl) (pe_callB (call_min2 rfl) (by rfl) T.min (by decide +kernel) (pa_cons (pv 1) (pa_cons (pe_ix ix_list (pe_lst (pa_cons pe_int (pa_cons pe_int (pa_cons pe_int (pa_cons pe_int (pa_cons pe_int (pa_cons pe_int (pa_cons pe_int (pa_cons pe_int (pa_cons pe_int (pa_cons pe_int (pa_cons pe_int (pa_cons pe_int pa_nil))))))))))))) (pe_ix ix_list (pv 0) pe_int (fun _ _ => rfl)) (fun _ _ => rfl)) pa_nil))))
      (pss_cons (ps_set (i := 3) sc_law_alphabet.nd rfl (Or.inl rfl) pe_str)
      (pss_cons (ps_set (i := 4) sc_law_alphabet.nd rfl (Or.inl rfl) (pe_lst pa_nil))
      (pss_cons (ps_for PassesOwn.never rfl (pi_range1 (by rfl) T.range (pa_cons (pv 2) pa_nil)) (pg_name (i := 5) sc_law_alphabet.nd rfl (Or.inl rfl))
        (pss_cons (ps_set (i := 6) sc_law_alphabet.nd rfl (Or.inl rfl) (pe_op op_mod (pe_callTy call_int1 (by rfl) T.int_ (by decide +kernel) (pa_cons (pe_ix ix_list (pv 0) (pe_op op_add pe_int (pv 5)) (fun _ _ => rfl)) pa_nil)) pe_int))
          (pss_cons (ps_for PassesOwn.never rfl (pi_range1 (by rfl) T.range (pa_cons pe_int pa_nil)) (pg_name (i := 7) sc_law_alphabet.nd rfl (Or.inl rfl))
            (pss_one (ps_if (pt_cmpR op_in_seq (pe_ix ix_str (pv 3) (pv 6) (fun _ _ => rfl)) (pv 4) (by rfl)) (pss_one (ps_set (i := 6) sc_law_alphabet.nd rfl (Or.inl rfl) (pe_op op_mod (pe_callTy call_int1 (by rfl) T.int_ (by decide +kernel) (pa_cons (pe_op op_add (pv 6) pe_int) pa_nil)) pe_int))) pss_nil)))
          (pss_one (ps_expr (pe_bm PySem.F.plainAttrs_list PySem.F.slot_list_append PySem.F.type_list_append mt_append (pv 4) (pa_cons (pe_ix ix_str (pv 3) (pv 6) (fun _ _ => rfl)) pa_nil)))))))
      (pss_one (ps_ret (pe_join pe_str (pe_callB cr_sortedS (by rfl) T.sorted (by decide +kernel) (pa_cons (pv 4) pa_nil))))))))), ?_⟩
    obtain ⟨m, hm, m1, m6⟩ := at_ints (ns := [2, 2, 2, 2, 3, 3, 3, 1, 4, 5, 6, 2]) (i := rs.getD 0 0) (fun z => 1 ≤ z ∧ z ≤ 6) (by decide) h0 (by show rs.getD 0 0 < 12; omega)
    refine q_asg (ev_min2 (ev_var rfl) (ev_ixNew (K := K) (el_lst (ea_cons ev_c (ea_cons ev_c (ea_cons ev_c (ea_cons ev_c (ea_cons ev_c (ea_cons ev_c (ea_cons ev_c (ea_cons ev_c (ea_cons ev_c (ea_cons ev_c (ea_cons ev_c (ea_cons ev_c ea_nil)))))))))))) (by show 12 ≤ 100000; decide)) (fun H1 e1 => ev_op (ev_var rfl) ev_c (rv_ixL (K := K) (ex_l e1 hS) (at_d (i := 0) (by omega)))) hm)) fun H1 e1 => ?_
    have hmm : (if m < (6 : Int) then m else 6) = m := by split <;> omega
    rw [hmm]
    refine q_asg ev_c fun H2 e2 => ?_
    refine q_asgL (el_lst ea_nil (by decide)) fun t H3 nt e3 ht => ?_
    have e12 := e1.trans e2
    refine q_forR1 (ea_cons (ev_var rfl) ea_nil) ⟨by omega, by omega⟩ (fun i σ' H' => ∃ (ls : List (List Nat)) (x y z : Option V), σ' = [some (.ref p), some (.int 6), some (.int m), some (.str L36), some (.ref t), x, y, z] ∧ Ex H2 H' ∧ H' t = some (.lst (sV ls)) ∧ ls.length = i ∧ ∀ l ∈ ls, l.length = 1)
      (fun H4 e4 => ⟨[], none, none, none, rfl, e3.trans e4, e4 _ _ ht, rfl, fun _ h => absurd h List.not_mem_nil⟩) ?_ ?_
    · rintro i σ' H' hi ⟨ls, x, y, z, rfl, e, hts, hln, hone⟩
      refine q_asg (ev_op (ev_int (ev_op (ev_var rfl) (ev_op ev_c (ev_var rfl) rv_I0) (rv_ixL (K := K) (ex_l (e12.trans e) hS) (at_map (i := 1 + (i : Int)) (z := rs.getD (1 + i) 0) (by omega) (by
        have e1 : (1 + (i : Int)).toNat = 1 + i := by omega
        rw [e1, List.getD_eq_getElem?_getD, List.getElem?_eq_getElem (by omega)]
        rfl))))) ev_c (rv_I (by decide))) fun H4 e4 => ?_
      refine q_forR1 (ea_cons ev_c ea_nil) ⟨by decide, by decide⟩ (fun j σ2 H5 => ∃ (at_ : Int) (z : Option V), σ2 = [some (.ref p), some (.int 6), some (.int m), some (.str L36), some (.ref t), some (.int (i : Int)), some (.int at_), z] ∧ Ex H4 H5 ∧ 0 ≤ at_ ∧ at_ < 36)
        (fun H5 e5 => ⟨_, z, rfl, e5, Int.emod_nonneg _ (by decide), Int.emod_lt_of_pos _ (by decide)⟩) ?_ ?_
      · rintro j σ2 H5 hj ⟨at_, z, rfl, e5, a0, a1⟩
        obtain ⟨c, hc⟩ := at_str (H := H5) L36_len (by decide) a0 a1
        refine s_when (et_test (ev_op (ev_op (ev_var rfl) (ev_var rfl) hc) (ev_var rfl) (rv_isL (K := K) (sq_of (e5 _ _ (e4 _ _ hts))) rfl (flat_strs ls)))) (fun hb H6 e6 => ?_) (fun hb H6 e6 => ⟨_, _, rfl, e5.trans e6, a0, a1⟩)
        exact s_asg (ev_op (ev_int (ev_op (ev_var rfl) ev_c rv_I0)) ev_c (rv_I (by decide))) fun H7 e7 => ⟨_, _, rfl, (e5.trans e6).trans e7, Int.emod_nonneg _ (by decide), Int.emod_lt_of_pos _ (by decide)⟩
      · rintro σ2 H5 ⟨at_, z, rfl, e5, a0, a1⟩
        obtain ⟨c, hc⟩ := at_str (H := H5) L36_len (by decide) a0 a1
        refine s_app (e5 _ _ (e4 _ _ hts)) (ev_var rfl) (ev_op (ev_var rfl) (ev_var rfl) hc) (by rw [List.length_map]; omega) fun H6 e6 => ?_
        refine ⟨ls ++ [[c]], _, _, _, rfl, Ex.mut (((e.trans e4).trans e5).trans e6) nt, ?_, by rw [List.length_append, hln]; rfl, fun l hl => ?_⟩
        · show upd _ _ _ _ = some (.lst (List.map _ (ls ++ [[c]])))
          rw [List.map_append]
          exact upd_same
        · rcases List.mem_append.mp hl with h | h
          · exact hone l h
          · simp at h; subst h; rfl
    rintro σ' H' ⟨ls, x, y, z, rfl, e, hts, hln, hone⟩
    have hsum : (ls.map List.length).sum = ls.length := by
      have : ∀ ls : List (List Nat), (∀ l ∈ ls, l.length = 1) → (ls.map List.length).sum = ls.length := by
        intro ls
        induction ls with
        | nil => intro _; rfl
        | cons a ls ih =>
          intro h
          rw [List.map_cons, List.sum_cons, List.length_cons, ih fun l hl => h l (List.mem_cons_of_mem _ hl), h a List.mem_cons_self]
          omega
      exact this ls hone
    exact ev_joinSorted ev_c (ev_var rfl) (sq_of hts) (by omega) (by omega) fun l H4 hl e4 => q l (by omega) (by omega) H4 ((e12.trans e).trans e4)
theorem q_alp {σ : L2.St} {H : Hp} {i : Nat} {E : XK} {ta tb : TE} {D : Ends} {tz : TS} {p : Addr} {rs : List Int} (ha : Ev ta σ H (.ref p)) (hb : Ev tb σ H (.int 6)) (hS : SqL K H p (rs.map V.int)) (h7 : 7 ≤ rs.length) (h0 : 0 ≤ rs.getD 0 0) (h12 : rs.getD 0 0 < 12)
    (k : ∀ (l : List Nat) H1, 1 ≤ l.length → l.length ≤ 6 → Ex H H1 → tz D (σ.set i (some (.str (S l)))) H1) : tSeq (tAsg (tCall (spAlp K) [] E (tCons ta (tCons tb tNil))) (gName i)) tz D σ H :=
  q_call (ea_cons ha (ea_cons hb ea_nil)) fun H1 e1 => ⟨p, rs, rfl, ex_l e1 hS, h7, h0, h12, fun l l1 l6 H2 e2 => k l H2 l1 l6 (e1.trans e2)⟩
abbrev s_law_signs : Stmt := top 6
abbrev N_law_signs : List Str := ["row", "signs", "digit"]
theorem sc_law_signs : FnScope N_law_signs ["row"] (defScope s_law_signs) := ⟨rfl, rfl, rfl, by decide +kernel, rfl, by decide +kernel, by decide +kernel⟩
def spSig (K : PySem.W.Frag) : Sp := fun vs H Q _ => ∃ (p : Addr) (rs : List Int), vs = [.ref p] ∧ SqL K H p (rs.map V.int) ∧ (∀ z ∈ rs, 0 ≤ z ∧ z < 95) ∧ rs.length ≤ 1000 ∧ ∀ l : List Nat, l.length = rs.length → RetV (.str (S l)) H Q
abbrev Sg1 : Str := " !\"#$&'()*+,-./0123456789:;<=>?@ABCDEFGHIJKLMNOPQRSTUVWXYZ[\\]^_`"
abbrev Sg2 : Str := "abcdefghijklmnopqrstuvwxyz{|}~\n"
theorem Sg1_len : Sg1.cps.toList.length = 64 := by decide +kernel
theorem Sg2_len : Sg2.cps.toList.length = 31 := by decide +kernel
theorem ok_law_signs (T : TT mg) (F : At K mg "_law_signs" s_law_signs) : Dn P w K mg base 1 "_law_signs" s_law_signs ["row"] (spSig K) := by
  refine dn_ok F sc_law_signs (fun _ _ _ _ _ _ us hl => match us, hl with | [_], _ => rfl) (fun vs H Q E h => ?_) (fun f cdv A outer t H vs Q E hr h => ?_)
  · obtain ⟨p, rs, rfl, _⟩ := h; rfl
  · obtain ⟨p, rs, rfl, hS, h95, hz, q⟩ := h
    refine ⟨_, (pss_cons (ps_set (i := 1) sc_law_signs.nd rfl (Or.inr rfl) pe_str)
      (pss_cons (ps_set (i := 1) sc_law_signs.nd rfl (Or.inr rfl) (pe_op op_add_str (pv 1) pe_str))
      (pss_one (ps_ret (pe_join pe_str (pe_lc (own := [("digit", 2)]) (g := gName 2) (tt := tYes) rfl sc_law_signs.nd (pi_list (pv 0)) (blkOk_by (own := [("digit", 2)]) (N := N_law_signs) (sc := defScope s_law_signs) (by decide +kernel)) (fun _ _ _ _ _ => pg_name (i := 2) sc_law_signs.nd rfl (Or.inl rfl)) (fun _ _ _ _ _ => pts_nil) (fun _ _ _ _ _ => (pe_ix ix_str (pv 1) (pv 2) (fun _ _ => rfl))))))))), ?_⟩
    refine q_asg (v := .str (S Sg1.cps.toList)) (ev_is ev_c (congrArg V.str (S_tl Sg1).symm)) fun H1 e1 => ?_
    refine q_asg (v := .str (S (Sg1.cps.toList ++ Sg2.cps.toList))) (ev_op (ev_var rfl) (ev_is ev_c (congrArg V.str (S_tl Sg2).symm)) (rv_addS (by rw [Sg1_len, Sg2_len]; decide))) fun H2 e2 => ?_
    have hlen : (Sg1.cps.toList ++ Sg2.cps.toList).length = 95 := by rw [List.length_append, Sg1_len, Sg2_len]
    revert e2
    generalize Sg1.cps.toList ++ Sg2.cps.toList = sg at hlen ⊢
    intro e2
    let g : Nat → List Nat := fun i => [(atI sg (rs.getD i 0)).getD 0]
    refine s_ret (ev_joinL (K := K) (ls := (List.range rs.length).map g) ev_c ?_ ?_) fun H3 e3 => q _ ?_ H3 ((e1.trans e2).trans e3)
    · have hg : given (rs.map V.int).length (fun _ => true) (fun i => V.str (S (g i))) = sV ((List.range rs.length).map g) := by
        have : ∀ n, given n (fun _ => true) (fun i => V.str (S (g i))) = sV ((List.range n).map g) := by
          intro n
          induction n with
          | zero => rfl
          | succ n ih =>
            rw [given_yes rfl, ih, List.range_succ, List.map_append]
            show _ = List.map _ (List.map g (List.range n) ++ [g n])
            rw [List.map_append]
            rfl
        rw [this, List.length_map]
      rw [← hg]
      refine el_lcL (fun _ => true) (fun i => V.str (S (g i))) (ev_var rfl) (ex_l (e1.trans e2) hS) (by rw [List.length_map]; omega) (fun _ => rfl) (fun _ _ _ _ _ => et_yes) (fun i x H3 e3 hx _ => ?_)
      obtain ⟨z, hz2, rfl⟩ := get_map hx
      obtain ⟨z0, z1⟩ := h95 z (List.mem_of_getElem? hz2)
      obtain ⟨c, hc, _⟩ := at_get (l := sg) z0 (by omega)
      have gi : g i = [c] := by
        show [(atI sg (rs.getD i 0)).getD 0] = [c]
        rw [List.getD_eq_getElem?_getD, hz2]
        show [(atI sg z).getD 0] = [c]
        rw [hc]
        rfl
      rw [gi]
      exact ev_op (ev_var rfl) (ev_var rfl) (rv_ixSS (by omega) hc)
    · refine Nat.le_trans (sum_le (n := 1) fun l hl => ?_) ?_
      · obtain ⟨j, _, rfl⟩ := List.mem_map.mp hl
        exact Nat.le_refl 1
      · rw [List.length_map, List.length_range]; omega
    · rw [List.length_flatten, List.map_map]
      have : ∀ n, (List.map (List.length ∘ g) (List.range n)).sum = n := by
        intro n
        induction n with
        | zero => rfl
        | succ n ih => rw [List.range_succ, List.map_append, List.sum_append, ih]; rfl
      exact this _
abbrev s_law_doubling : Stmt := top 7
abbrev N_law_doubling : List Str := ["free", "line", "k"]
theorem sc_law_doubling : FnScope N_law_doubling ["free"] (defScope s_law_doubling) := ⟨rfl, rfl, rfl, by decide +kernel, rfl, by decide +kernel, by decide +kernel⟩
def spDbl : Sp := fun vs H Q _ => ∃ l : List Nat, vs = [.str (S l)] ∧ 10 ≤ l.length ∧ l.length ≤ 1000 ∧ ∀ l2 : List Nat, l2.length ≤ 2000 → RetV (.str (S l2)) H Q
theorem ok_law_doubling (T : TT mg) (F : At K mg "_law_doubling" s_law_doubling) : Dn P w K mg base 1 "_law_doubling" s_law_doubling ["free"] spDbl := by
  refine dn_ok F sc_law_doubling (fun _ _ _ _ _ _ us hl => match us, hl with | [_], _ => rfl) (fun vs H Q E h => ?_) (fun f cdv A outer t H vs Q E hr h => ?_)
  · obtain ⟨l, rfl, _⟩ := h; rfl
  · obtain ⟨l, rfl, h10, h1000, q⟩ := h
    refine ⟨_, (pss_cons (ps_set (i := 1) sc_law_doubling.nd rfl (Or.inl rfl) (pe_slice sl_str (pv 0) po_none (po_some pe_int)))
      (pss_cons (ps_for PassesOwn.never rfl (pi_range1 (by rfl) T.range (pa_cons pe_int pa_nil)) (pg_name (i := 2) sc_law_doubling.nd rfl (Or.inl rfl))
        (pss_one (ps_set (i := 1) sc_law_doubling.nd rfl (Or.inl rfl) (pe_op op_add_str (pe_op op_add_str (pv 1) (pe_ix ix_str (pv 0) (pe_op op_add pe_int (pv 2)) (fun _ _ => rfl))) (pv 1)))))
      (pss_one (ps_ret (pv 1))))), ?_⟩
    refine q_asg (ev_slS (ev_var rfl) eo_none (eo_some ev_c) (by omega)) fun H1 e1 => ?_
    refine q_forR1 (ea_cons ev_c ea_nil) ⟨by decide, by decide⟩ (fun i σ' H' => ∃ (m : List Nat) (x : Option V), σ' = [some (.str (S l)), some (.str (S m)), x] ∧ Ex H H' ∧ m.length + 1 ≤ 3 * 2 ^ i)
      (fun H2 e2 => ⟨_, none, rfl, e1.trans e2, by rw [cutL_to (by decide), List.length_take]; omega⟩) ?_ ?_
    · rintro i σ' H' hi ⟨m, x, rfl, e, hm⟩
      have hp : 2 ^ i ≤ 2 ^ 7 := Nat.pow_le_pow_right (by decide) (by omega)
      have h7 : (2 : Nat) ^ 7 = 128 := by decide
      have hs : (2 : Nat) ^ (i + 1) = 2 ^ i * 2 := Nat.pow_succ 2 i
      obtain ⟨c, _, hc⟩ := at_S (H := H') (l := l) (i := 2 + (i : Int)) (by omega) (by omega) (by omega)
      refine s_asg (ev_op (ev_op (ev_var rfl) (ev_op (ev_var rfl) (ev_op ev_c (ev_var rfl) rv_I0) hc) (rv_addS (by simp; omega))) (ev_var rfl) (rv_addS (by simp; omega))) fun H2 e2 => ⟨_, _, rfl, e.trans e2, ?_⟩
      simp
      omega
    · rintro σ' H' ⟨m, x, rfl, e, hm⟩
      exact s_ret (ev_var rfl) fun H2 e2 => q m (by
        have : (Int.toNat 8) = 8 := rfl
        rw [this] at hm
        omega) H2 (e.trans e2)
abbrev s_law_two_before : Stmt := top 8
abbrev N_law_two_before : List Str := ["free", "one", "two", "k", "three"]
theorem sc_law_two_before : FnScope N_law_two_before ["free"] (defScope s_law_two_before) := ⟨rfl, rfl, rfl, by decide +kernel, rfl, by decide +kernel, by decide +kernel⟩
def fibB : Nat → Nat
  | 0 => 1
  | 1 => 2
  | n + 2 => fibB (n + 1) + fibB n
theorem fibB_le : ∀ {i : Nat}, i ≤ 12 → fibB i ≤ 400 := by decide
theorem ok_law_two_before (T : TT mg) (F : At K mg "_law_two_before" s_law_two_before) : Dn P w K mg base 1 "_law_two_before" s_law_two_before ["free"] spDbl := by
  refine dn_ok F sc_law_two_before (fun _ _ _ _ _ _ us hl => match us, hl with | [_], _ => rfl) (fun vs H Q E h => ?_) (fun f cdv A outer t H vs Q E hr h => ?_)
  · obtain ⟨l, rfl, _⟩ := h; rfl
  · obtain ⟨l, rfl, h10, h1000, q⟩ := h
    refine ⟨_, (pss_cons (ps_set (i := 1) sc_law_two_before.nd rfl (Or.inl rfl) (pe_ix ix_str (pv 0) pe_int (fun _ _ => rfl)))
      (pss_cons (ps_set (i := 2) sc_law_two_before.nd rfl (Or.inl rfl) (pe_slice sl_str (pv 0) (po_some pe_int) (po_some pe_int)))
      (pss_cons (ps_for PassesOwn.never rfl (pi_range1 (by rfl) T.range (pa_cons pe_int pa_nil)) (pg_name (i := 3) sc_law_two_before.nd rfl (Or.inl rfl))
        (pss_cons (ps_set (i := 4) sc_law_two_before.nd rfl (Or.inl rfl) (pe_op op_add_str (pv 2) (pv 1)))
          (pss_cons (ps_set (i := 1) sc_law_two_before.nd rfl (Or.inl rfl) (pv 2))
          (pss_one (ps_set (i := 2) sc_law_two_before.nd rfl (Or.inl rfl) (pv 4))))))
      (pss_one (ps_ret (pv 2)))))), ?_⟩
    obtain ⟨c, _, hc⟩ := at_S (H := H) (l := l) (i := 0) (by omega) (by omega) (by omega)
    refine q_asg (ev_op (ev_var rfl) ev_c hc) fun H1 e1 => ?_
    refine q_asg (ev_slS (ev_var rfl) (eo_some ev_c) (eo_some ev_c) (by omega)) fun H2 e2 => ?_
    refine q_forR1 (ea_cons ev_c ea_nil) ⟨by decide, by decide⟩ (fun i σ' H' => ∃ (a b : List Nat) (x y : Option V), σ' = [some (.str (S l)), some (.str (S a)), some (.str (S b)), x, y] ∧ Ex H H' ∧ a.length ≤ fibB i ∧ b.length ≤ fibB (i + 1))
      (fun H3 e3 => ⟨_, _, none, none, rfl, (e1.trans e2).trans e3, Nat.le_refl 1, by rw [cutL_mid (by decide) (by decide), List.length_take]; exact Nat.min_le_left _ _⟩) ?_ ?_
    · rintro i σ' H' hi ⟨a, b, x, y, rfl, e, ha, hb⟩
      have b1 : fibB i ≤ 400 := fibB_le (by omega)
      have b2 : fibB (i + 1) ≤ 400 := fibB_le (by omega)
      refine q_asg (ev_op (ev_var rfl) (ev_var rfl) (rv_addS (by omega))) fun H3 e3 => ?_
      refine q_asg (ev_var rfl) fun H4 e4 => ?_
      refine s_asg (ev_var rfl) fun H5 e5 => ⟨_, _, _, _, rfl, ((e.trans e3).trans e4).trans e5, hb, ?_⟩
      rw [List.length_append, fibB]
      omega
    · rintro σ' H' ⟨a, b, x, y, rfl, e, ha, hb⟩
      exact s_ret (ev_var rfl) fun H2 e2 => q b (by
        have : fibB (Int.toNat 12 + 1) = 610 := rfl
        omega) H2 (e.trans e2)
abbrev s_law_counted : Stmt := top 9
abbrev N_law_counted : List Str := ["abc", "most", "listed", "line", "at", "letter"]
theorem sc_law_counted : FnScope N_law_counted ["abc", "most"] (defScope s_law_counted) := ⟨rfl, rfl, rfl, by decide +kernel, rfl, by decide +kernel, by decide +kernel⟩
def spCnt : Sp := fun vs H Q _ => ∃ l : List Nat, vs = [.str (S l), .int 400] ∧ 1 ≤ l.length ∧ l.length ≤ 100 ∧ ∀ l2 : List Nat, l2.length ≤ 100000 → RetV (.str (S l2)) H Q
theorem ok_law_counted (T : TT mg) (F : At K mg "_law_counted" s_law_counted) : Dn P w K mg base 1 "_law_counted" s_law_counted ["abc", "most"] spCnt := by
  refine dn_ok F sc_law_counted (fun _ _ _ _ _ _ us hl => match us, hl with | [_, _], _ => rfl) (fun vs H Q E h => ?_) (fun f cdv A outer t H vs Q E hr h => ?_)
  · obtain ⟨l, rfl, _⟩ := h; rfl
  · obtain ⟨l, rfl, h1, h6, q⟩ := h
    refine ⟨_, (pss_cons (ps_set (i := 2) sc_law_counted.nd rfl (Or.inl rfl) (pe_lst (pa_cons pe_str pa_nil)))
      (pss_cons (ps_set (i := 3) sc_law_counted.nd rfl (Or.inl rfl) pe_str)
      (pss_cons (ps_for PassesOwn.never rfl (pi_range1 (by rfl) T.range (pa_cons pe_int pa_nil)) (pg_name (i := 4) sc_law_counted.nd rfl (Or.inl rfl))
        (pss_cons (ps_if (pt_cmpR op_ge (pe_callB call_len_str (by rfl) T.len boot_len (pa_cons (pv 3) pa_nil)) (pv 1) (nomark _)) (pss_one ps_break) pss_nil)
          (pss_one (ps_for PassesOwn.never rfl (pi_str (pv 0)) (pg_name (i := 5) sc_law_counted.nd rfl (Or.inl rfl))
            (pss_cons (ps_expr (pe_bm PySem.F.plainAttrs_list PySem.F.slot_list_append PySem.F.type_list_append mt_append (pv 2) (pa_cons (pe_op op_add_str (pe_ix ix_list (pv 2) (pv 4) (fun _ _ => rfl)) (pv 5)) pa_nil)))
              (pss_one (ps_set (i := 3) sc_law_counted.nd rfl (Or.inl rfl) (pe_op op_add_str (pe_op op_add_str (pv 3) (pe_ix ix_list (pv 2) (pv 4) (fun _ _ => rfl))) (pv 5)))))))))
      (pss_one (ps_ret (pv 3)))))), ?_⟩
    refine q_asgL (xs := sV [[]]) (el_lst (ea_cons ev_c ea_nil) (by show 1 ≤ 100000; decide)) fun p H1 np e1 hp => ?_
    refine q_asg (v := .str (S [])) ev_c fun H2 e2 => ?_
    refine q_forR1 (ea_cons ev_c ea_nil) ⟨by decide, by decide⟩ (fun i σ' H' => ∃ (ls : List (List Nat)) (m : List Nat) (x y : Option V), σ' = [some (.str (S l)), some (.int 400), some (.ref p), some (.str (S m)), x, y] ∧ Ex H H' ∧ H' p = some (.lst (sV ls)) ∧ ls.length = 1 + i * l.length ∧ (∀ u ∈ ls, u.length ≤ i) ∧ m.length ≤ 400 + 100 * 404)
      (fun H3 e3 => ⟨[[]], [], none, none, rfl, (e1.trans e2).trans e3, e3 _ _ (e2 _ _ hp), by simp, by simp, by simp⟩) ?_ ?_
    · rintro i σ' H' hi ⟨ls, m, x, y, rfl, e, hl, hln, hu, hm⟩
      refine q_when (et_test (ev_op (ev_lenSS (ev_var rfl) (by omega)) (ev_var rfl) rv_I0)) (fun hb H3 e3 => ?_) (fun hb H3 e3 => ?_)
      · exact s_ret (ev_var rfl) fun H4 e4 => q m (by omega) H4 ((e.trans e3).trans e4)
      have hm4 : m.length < 400 := by
        have := of_decide_eq_false hb
        omega
      have hi4 : i ≤ 401 := by omega
      have hbig : i * l.length ≤ 401 * 100 := Nat.mul_le_mul hi4 h6
      have hpos : i < ls.length := by
        have : i * 1 ≤ i * l.length := Nat.mul_le_mul_left _ h1
        omega
      refine s_forS (ev_var rfl) (fun j σ2 H4 => ∃ (l2 : List (List Nat)) (m2 : List Nat) (y : Option V), σ2 = [some (.str (S l)), some (.int 400), some (.ref p), some (.str (S m2)), some (.int (i : Int)), y] ∧ Ex H H4 ∧ H4 p = some (.lst (sV (ls ++ l2))) ∧ l2.length = j ∧ (∀ u ∈ l2, u.length ≤ i + 1) ∧ m2.length ≤ m.length + j * 403)
        (fun H4 e4 => ⟨[], m, y, rfl, (e.trans e3).trans e4, by rw [List.append_nil]; exact e4 _ _ (e3 _ _ hl), rfl, fun _ h => absurd h List.not_mem_nil, by omega⟩) ?_ ?_
      · rintro j c σ2 H4 hc ⟨l2, m2, y, rfl, e4, hp4, hl2, hu2, hm2⟩
        have hj : j < l.length := by
          have := (Array.getElem?_eq_some_iff.mp hc).1
          simpa using this
        have hj403 : j * 403 ≤ 100 * 403 := Nat.mul_le_mul_right _ (by omega)
        have hat : atI (sV (ls ++ l2)) (i : Int) = some (.str (S (ls.getD i []))) := by
          refine atI_nat ?_
          rw [List.getElem?_map, List.getElem?_append_left hpos, List.getElem?_eq_getElem hpos, List.getD_eq_getElem?_getD, List.getElem?_eq_getElem hpos]
          rfl
        have hul : (ls.getD i []).length ≤ i := hu _ (by
          rw [List.getD_eq_getElem?_getD, List.getElem?_eq_getElem hpos]
          exact List.getElem_mem hpos)
        have hat2 : ∀ z : List Nat, atI (sV (ls ++ l2) ++ [V.str (S z)]) (i : Int) = some (.str (S (ls.getD i []))) := fun z => by
          refine atI_nat ?_
          have q1 : i < (sV (ls ++ l2)).length := by rw [List.length_map, List.length_append]; omega
          rw [List.getElem?_append_left q1, List.getElem?_map, List.getElem?_append_left hpos, List.getElem?_eq_getElem hpos, List.getD_eq_getElem?_getD, List.getElem?_eq_getElem hpos]
          rfl
        refine q_app hp4 (ev_var rfl) (ev_op (ev_op (ev_var rfl) (ev_var rfl) (rv_ixL (K := K) (sq_of hp4) hat)) (ev_var rfl) (rv_addS (b := [c]) (by show (ls.getD i []).length + 1 ≤ _; omega))) (by rw [List.length_map, List.length_append]; omega) fun H5 e5 => ?_
        refine s_asg (ev_op (ev_op (ev_var rfl) (ev_op (ev_var rfl) (ev_var rfl) (rv_ixL (K := K) (sq_of upd_same) (hat2 _))) (rv_addS (by omega))) (ev_var rfl) (rv_addS (b := [c]) (by show (m2 ++ ls.getD i []).length + 1 ≤ _; rw [List.length_append]; omega))) fun H6 e6 => ?_
        refine ⟨l2 ++ [ls.getD i [] ++ [c]], _, _, rfl, (Ex.mut (e4.trans e5) np).trans e6, ?_, by rw [List.length_append, hl2]; rfl, fun u hu3 => ?_, ?_⟩
        · refine e6 _ _ ?_
          show upd _ _ _ _ = some (.lst (List.map _ (ls ++ (l2 ++ [_]))))
          rw [← List.append_assoc, List.map_append (l₁ := ls ++ l2)]
          exact upd_same
        · rcases List.mem_append.mp hu3 with h | h
          · exact hu2 u h
          · simp only [List.mem_singleton] at h; subst h; rw [List.length_append]; show _ + 1 ≤ _; omega
        · show (m2 ++ ls.getD i [] ++ [c]).length ≤ _
          rw [List.length_append, List.length_append]
          show _ + _ + 1 ≤ _
          omega
      · rintro σ2 H4 ⟨l2, m2, y, rfl, e4, hp4, hl2, hu2, hm2⟩
        have hsz : (S l).cps.size = l.length := by simp
        rw [hsz] at hl2 hm2
        have hj403 : l.length * 403 ≤ 100 * 403 := Nat.mul_le_mul_right _ h6
        refine ⟨ls ++ l2, m2, _, _, rfl, e4, hp4, by rw [List.length_append, hln, hl2, Nat.succ_mul]; omega, fun u hu3 => ?_, by omega⟩
        rcases List.mem_append.mp hu3 with h | h
        · have := hu u h; omega
        · exact hu2 u h
    · rintro σ' H' ⟨ls, m, x, y, rfl, e, hl, hln, hu, hm⟩
      exact s_ret (ev_var rfl) fun H2 e2 => q m (by omega) H2 (e.trans e2)
end
end My

set_option Elab.async false
set_option linter.all false
set_option maxRecDepth 100000
set_option maxHeartbeats 4000000
namespace My
open PySem PySem.Spec PyProof.Rows L2 Evl
open SX (S S_len S_cat S_beq S_beq_eq S_inj S_tl)
/-- x in [..], the list new -/
theorem ev_inNew {K : PySem.W.Frag} {σ : L2.St} {H : Hp} {ta tb : TE} {x : V} {xs : List V} (ha : Ev ta σ H x) (hb : EvL tb σ H xs) (hx : flatV x = true) (hf : xs.all flatV = true) : Ev (tOp (rIn K false) ta tb) σ H (.bl (inV x xs)) := fun H0 e0 Q q =>
  ha H0 e0 _ fun H1 e1 => hb H1 (e0.trans e1) _ fun p H2 hp e2 h2 => rv_isL (K := K) (sq_of h2) hx hf H2 (Ex.refl H2) Q fun H3 e3 => q H3 ((e1.trans e2).trans e3)
/-- a test, then one assignment of any text -/
theorem q_cutIf {σ : L2.St} {H : Hp} {t : L2.TT} {tu tz : TS} {D : Ends} {b : Bool} (M : L2.St → Hp → Prop) (h : EvT t σ H b) (h1 : b = true → ∀ H1, Ex H H1 → tu { D with nx := M } σ H1) (h2 : ∀ H1, Ex H H1 → M σ H1) (k : ∀ σ' H', M σ' H' → tz D σ' H') : tCut (tIfS t tu tNext) tz D σ H :=
  q_cut (M := M) (s_when (D := { D with nx := M }) h h1 fun _ => h2) k
theorem s_call {σ : L2.St} {H : Hp} {i : Nat} {sp : Sp} {dvs vs : List V} {E : XK} {ta : TA} {D : Ends} (h : EvA ta σ H vs) (hs : ∀ H1, Ex H H1 → sp (vs ++ dvs) H1 (fun x H2 => D.nx (σ.set i (some x)) H2) E) : tAsg (tCall sp dvs E ta) (gName i) D σ H :=
  h H (Ex.refl H) _ fun H1 e1 => hs H1 e1
section
variable {P : Program} {w : World} {K : PySem.W.Frag} {mg : Str → Option Value} {base : Heap}
abbrev s_law_any_text : Stmt := top 10
abbrev N_law_any_text : List Str := ["abc", "row", "most", "wide", "free", "part", "line", "at", "digit", "k", "letter"]
theorem sc_law_any_text : FnScope N_law_any_text ["abc", "row", "most"] (defScope s_law_any_text) := ⟨rfl, rfl, rfl, by decide +kernel, rfl, by decide +kernel, by decide +kernel⟩
def spAny (K : PySem.W.Frag) : Sp := fun vs H Q _ => ∃ (l : List Nat) (p : Addr) (rs : List Int), vs = [.str (S l), .ref p, .int 400] ∧ 1 ≤ l.length ∧ l.length ≤ 100 ∧ SqL K H p (rs.map V.int) ∧ rs.length = 405 ∧ (0 ≤ rs.getD 1 0 ∧ rs.getD 1 0 < 8) ∧ (0 ≤ rs.getD 4 0 ∧ rs.getD 4 0 < 12) ∧
  ∀ m : List Nat, m.length ≤ 400 → RetV (.str (S m)) H Q
theorem cutL_ints (rs : List Int) (lo hi : Option Int) : cutV (rs.map V.int) lo hi = (cutL rs lo hi).map V.int := by rw [cutV_L, cutL_map]
theorem ok_law_any_text (T : TT mg) (F : At K mg "_law_any_text" s_law_any_text) (D_law_doubling : Dn P w K mg base 1 "_law_doubling" s_law_doubling ["free"] spDbl) (D_law_two_before : Dn P w K mg base 1 "_law_two_before" s_law_two_before ["free"] spDbl)
    (D_law_counted : Dn P w K mg base 1 "_law_counted" s_law_counted ["abc", "most"] spCnt) : Dn P w K mg base 2 "_law_any_text" s_law_any_text ["abc", "row", "most"] (spAny K) := by
  refine dn_ok F sc_law_any_text (fun _ _ _ _ _ _ us hl => match us, hl with | [_, _, _], _ => rfl) (fun vs H Q E h => ?_) (fun f cdv A outer t H vs Q E hr h => ?_)
  · obtain ⟨l, p, rs, rfl, _⟩ := h; rfl
  · obtain ⟨l, p, rs, rfl, l1, l100, hS, hlen, ⟨w0, w1⟩, ⟨p0, p1⟩, q⟩ := h
    refine ⟨_, (pss_cons (ps_set (i := 3) sc_law_any_text.nd rfl (Or.inl rfl) (pe_callB (call_min2 rfl) (by rfl) T.min (by decide +kernel) (pa_cons (pv 2) (pa_cons (pe_op op_mod (pe_callTy call_int1 (by rfl) T.int_ (by decide +kernel) (pa_cons (pe_ix ix_list (pv 1) pe_int (fun _ _ => rfl)) pa_nil)) (pe_ix ix_list (pe_lst (pa_cons pe_int (pa_cons pe_int (pa_cons pe_int (pa_cons (pe_op op_add (pv 2) pe_int) (pa_cons (pe_op op_add (pv 2) pe_int) (pa_cons (pe_op op_add (pv 2) pe_int) (pa_cons (pe_op op_add (pv 2) pe_int) (pa_cons (pe_op op_add (pv 2) pe_int) pa_nil))))))))) (pe_ix ix_list (pv 1) pe_int (fun _ _ => rfl)) (fun _ _ => rfl))) pa_nil))))
      (pss_cut (ps_if (PW.pt (pw_and (pt_cmpR op_gt (pe_ix ix_list (pv 1) pe_int (fun _ _ => rfl)) pe_int (nomark _)) (pw_and1 (pt_cmpR op_gt (pe_ix ix_list (pv 1) pe_int (fun _ _ => rfl)) pe_int (nomark _))))) (pss_one (ps_set (i := 3) sc_law_any_text.nd rfl (Or.inl rfl) (pe_op op_sub (pv 2) (pe_op op_mod (pe_callTy call_int1 (by rfl) T.int_ (by decide +kernel) (pa_cons (pe_ix ix_list (pv 1) pe_int (fun _ _ => rfl)) pa_nil)) pe_int)))) pss_nil)
      (pss_cons (ps_set (i := 4) sc_law_any_text.nd rfl (Or.inr rfl) (pe_join pe_str (pe_lc (own := [("digit", 8)]) (g := gName 8) (tt := tYes) rfl sc_law_any_text.nd (pi_list (pe_slice sl_list (pv 1) (po_some pe_int) (po_some pe_int))) (blkOk_by (own := [("digit", 8)]) (N := N_law_any_text) (sc := defScope s_law_any_text) (by decide +kernel)) (fun _ _ _ _ _ => pg_name (i := 8) sc_law_any_text.nd rfl (Or.inl rfl)) (fun _ _ _ _ _ => pts_nil) (fun _ _ _ _ _ => (pe_ix ix_str (pv 0) (pe_op op_mod (pe_callTy call_int1 (by rfl) T.int_ (by decide +kernel) (pa_cons (pv 8) pa_nil)) (pe_callB call_len_str (by rfl) T.len boot_len (pa_cons (pv 0) pa_nil))) (fun _ _ => rfl))))))
      (pss_cons (ps_set (i := 5) sc_law_any_text.nd rfl (Or.inl rfl) (pe_slice sl_str (pv 4) po_none (po_some (pe_ix ix_list (pe_lst (pa_cons pe_int (pa_cons pe_int (pa_cons pe_int (pa_cons pe_int (pa_cons pe_int (pa_cons pe_int (pa_cons pe_int (pa_cons pe_int (pa_cons pe_int (pa_cons pe_int (pa_cons pe_int (pa_cons pe_int pa_nil))))))))))))) (pe_ix ix_list (pv 1) pe_int (fun _ _ => rfl)) (fun _ _ => rfl)))))
      (pss_cons (ps_set (i := 6) sc_law_any_text.nd rfl (Or.inl rfl) (pv 4))
      (pss_cut (ps_if (pt_cmpR op_in_seq (pe_ix ix_list (pv 1) pe_int (fun _ _ => rfl)) (pe_lst (pa_cons pe_int (pa_cons pe_int pa_nil))) (by rfl)) (pss_one (ps_set (i := 6) sc_law_any_text.nd rfl (Or.inl rfl) (pe_op op_repS (pe_ix ix_str (pv 5) pe_int (fun _ _ => rfl)) pe_int))) pss_nil)
      (pss_cut (ps_if (pt_cmpR op_in_seq (pe_ix ix_list (pv 1) pe_int (fun _ _ => rfl)) (pe_lst (pa_cons pe_int (pa_cons pe_int (pa_cons pe_int (pa_cons pe_int pa_nil))))) (by rfl)) (pss_one (ps_set (i := 6) sc_law_any_text.nd rfl (Or.inl rfl) (pe_op op_repS (pv 5) pe_int))) pss_nil)
      (pss_cut (ps_if (pt_cmpR op_eq (pe_ix ix_list (pv 1) pe_int (fun _ _ => rfl)) pe_int (nomark _)) (pss_one (ps_set (i := 6) sc_law_any_text.nd rfl (Or.inl rfl) (pe_dn D_law_doubling hr (by decide) rfl (pa_cons (pv 4) pa_nil)))) pss_nil)
      (pss_cut (ps_if (pt_cmpR op_eq (pe_ix ix_list (pv 1) pe_int (fun _ _ => rfl)) pe_int (nomark _)) (pss_one (ps_set (i := 6) sc_law_any_text.nd rfl (Or.inl rfl) (pe_dn D_law_two_before hr (by decide) rfl (pa_cons (pv 4) pa_nil)))) pss_nil)
      (pss_cut (ps_if (pt_cmpR op_eq (pe_ix ix_list (pv 1) pe_int (fun _ _ => rfl)) pe_int (nomark _)) (pss_one (ps_set (i := 6) sc_law_any_text.nd rfl (Or.inl rfl) (pe_dn D_law_counted hr (by decide) rfl (pa_cons (pv 0) (pa_cons (pv 2) pa_nil))))) pss_nil)
      (pss_cut (ps_if (pt_cmpR op_in_seq (pe_ix ix_list (pv 1) pe_int (fun _ _ => rfl)) (pe_lst (pa_cons pe_int (pa_cons pe_int pa_nil))) (by rfl)) (pss_cons (ps_set (i := 7) sc_law_any_text.nd rfl (Or.inl rfl) (pe_op op_mod (pe_callTy call_int1 (by rfl) T.int_ (by decide +kernel) (pa_cons (pe_ix ix_list (pv 1) pe_int (fun _ _ => rfl)) pa_nil)) (pe_op op_add (pv 3) pe_int)))
        (pss_one (ps_set (i := 6) sc_law_any_text.nd rfl (Or.inl rfl) (pe_op op_add_str (pe_op op_add_str (pe_slice sl_str (pe_op op_repS (pv 5) pe_int) po_none (po_some (pv 7))) (pe_ix ix_str (pv 4) pe_int (fun _ _ => rfl))) (pe_slice sl_str (pe_op op_repS (pv 5) pe_int) (po_some (pe_op op_add (pv 7) pe_int)) po_none))))) pss_nil)
      (pss_cut (ps_if (pt_cmpR op_eq (pe_ix ix_list (pv 1) pe_int (fun _ _ => rfl)) pe_int (nomark _)) (pss_one (ps_set (i := 6) sc_law_any_text.nd rfl (Or.inl rfl) (pe_op op_add_str (pe_slice sl_str (pv 4) po_none (po_some (pe_op op_mod (pe_callTy call_int1 (by rfl) T.int_ (by decide +kernel) (pa_cons (pe_ix ix_list (pv 1) pe_int (fun _ _ => rfl)) pa_nil)) pe_int))) (pe_op op_repS (pe_ix ix_str (pv 5) pe_int (fun _ _ => rfl)) pe_int)))) pss_nil)
      (pss_cut (ps_if (pt_cmpR op_eq (pe_ix ix_list (pv 1) pe_int (fun _ _ => rfl)) pe_int (nomark _)) (pss_one (ps_set (i := 6) sc_law_any_text.nd rfl (Or.inl rfl) (pe_join pe_str (pe_lc (te := tM1 (rJoin K) (tC _) (tLc (iStr (tVar 0)) (gName 10) tYes (tOp rRepS (tVar 10) (tVar 9)) [10])) (own := [("k", 9)]) (g := gName 9) (tt := tYes) rfl sc_law_any_text.nd (pi_range2 (by rfl) T.range (pa_cons pe_int (pa_cons pe_int pa_nil))) (blkOk_by (own := [("k", 9)]) (N := N_law_any_text) (sc := defScope s_law_any_text) (by decide +kernel)) (fun _ _ _ _ _ => pg_name (i := 9) sc_law_any_text.nd rfl (Or.inr rfl)) (fun _ _ _ _ _ => pts_nil) (fun _ _ _ _ _ => (pe_join pe_str (pe_lc (own := [("letter", 10)]) (g := gName 10) (tt := tYes) rfl sc_law_any_text.nd (pi_str (pv 0)) (blkOk_by (by rfl)) (fun _ _ _ _ _ => pg_name (i := 10) sc_law_any_text.nd rfl (Or.inl rfl)) (fun _ _ _ _ _ => pts_nil) (fun _ _ _ _ _ => (pe_op op_repS (pv 10) (pv 9)))))))))) pss_nil)
      (pss_cut (ps_if (pt_cmpR op_eq (pe_ix ix_list (pv 1) pe_int (fun _ _ => rfl)) pe_int (nomark _)) (pss_one (ps_set (i := 6) sc_law_any_text.nd rfl (Or.inl rfl) (pe_op op_add_str (pe_op op_repS (pe_slice sl_str (pv 4) po_none (po_some (pe_op op_fdiv (pv 3) pe_int))) pe_int) (pe_slice sl_str (pv 4) po_none (po_some pe_int))))) pss_nil)
      (pss_cut (ps_if (pt_cmpR op_gt (pe_ix ix_list (pv 1) pe_int (fun _ _ => rfl)) pe_int (nomark _)) (pss_one (ps_set (i := 6) sc_law_any_text.nd rfl (Or.inl rfl) (pe_join pe_str (pe_lc (own := [("k", 9)]) (g := gName 9) (tt := tYes) rfl sc_law_any_text.nd (pi_range2 (by rfl) T.range (pa_cons pe_int (pa_cons pe_int pa_nil))) (blkOk_by (own := [("k", 9)]) (N := N_law_any_text) (sc := defScope s_law_any_text) (by decide +kernel)) (fun _ _ _ _ _ => pg_name (i := 9) sc_law_any_text.nd rfl (Or.inl rfl)) (fun _ _ _ _ _ => pts_nil) (fun _ _ _ _ _ => (pe_slice sl_str (pv 4) po_none (po_some (pv 9)))))))) pss_nil)
      (pss_one (ps_ret (pe_slice sl_str (pv 6) po_none (po_some (pv 3)))))))))))))))))))), ?_⟩
    -- wide
    obtain ⟨m, hm, m1, m2⟩ := at_ints (ns := [8, 46, 130, 401, 401, 401, 401, 401]) (i := rs.getD 1 0) (fun z => 1 ≤ z ∧ z ≤ 401) (by decide) w0 (by show rs.getD 1 0 < 8; omega)
    refine q_asg (ev_min2 (ev_var rfl) (ev_op (ev_int (ev_op (ev_var rfl) ev_c (rv_ixL (K := K) (ex_l (Ex.refl H) hS) (at_d (i := 2) (by omega))))) (ev_ixNew (K := K) (xs := [8, 46, 130, 401, 401, 401, 401, 401].map V.int) (el_lst (ea_cons ev_c (ea_cons ev_c (ea_cons ev_c (ea_cons (ev_op (ev_var rfl) ev_c rv_I0) (ea_cons (ev_op (ev_var rfl) ev_c rv_I0) (ea_cons (ev_op (ev_var rfl) ev_c rv_I0) (ea_cons (ev_op (ev_var rfl) ev_c rv_I0) (ea_cons (ev_op (ev_var rfl) ev_c rv_I0) ea_nil)))))))) (by show 8 ≤ 100000; decide)) (fun H1 e1 => (ev_op (ev_var rfl) ev_c (rv_ixL (K := K) (ex_l e1 hS) (at_d (i := 1) (by omega))))) hm) (rv_I (show (0 : Int) < m by omega)))) fun H1 e1 => ?_
    obtain ⟨wd, hwd, wd0, wd4⟩ : ∃ wd : Int, (if rs.getD 2 0 % m < 400 then rs.getD 2 0 % m else 400) = wd ∧ 0 ≤ wd ∧ wd ≤ 400 := by
      have a := Int.emod_nonneg (rs.getD 2 0) (show m ≠ 0 by omega)
      exact ⟨_, rfl, by split <;> omega, by split <;> omega⟩
    rw [hwd]
    refine q_cutIf (fun σ' H' => ∃ wd : Int, σ' = [some (.str (S l)), some (.ref p), some (.int 400), some (.int wd), none, none, none, none, none, none, none] ∧ Ex H H' ∧ 0 ≤ wd ∧ wd ≤ 400)
      (et_and (et_test (ev_op (ev_op (ev_var rfl) ev_c (rv_ixL (K := K) (ex_l e1 hS) (at_d (i := 0) (by omega)))) ev_c rv_I0)) fun _ => et_test (ev_op (ev_op (ev_var rfl) ev_c (rv_ixL (K := K) (ex_l e1 hS) (at_d (i := 1) (by omega)))) ev_c rv_I0)) (fun _ H2 e2 => ?_) (fun H2 e2 => ⟨wd, rfl, e1.trans e2, wd0, wd4⟩) ?_
    · refine s_asg (ev_op (ev_var rfl) (ev_op (ev_int (ev_op (ev_var rfl) ev_c (rv_ixL (K := K) (ex_l (e1.trans e2) hS) (at_d (i := 2) (by omega))))) ev_c (rv_I (by decide))) rv_I0) fun H3 e3 => ⟨_, rfl, (e1.trans e2).trans e3, ?_, ?_⟩
      · have := Int.emod_lt_of_pos (rs.getD 2 0) (show (0 : Int) < 120 by decide)
        omega
      · have := Int.emod_nonneg (rs.getD 2 0) (show (120 : Int) ≠ 0 by decide)
        omega
    clear hwd wd0 wd4 wd
    rintro σ' H2 ⟨wd, rfl, e2, wd0, wd4⟩
    -- free
    let ds : List Int := cutL rs (some 5) (some 405)
    have hds : ds.length = 400 := by
      show (cutL rs (some 5) (some 405)).length = 400
      rw [cutL_mid (by decide) (by decide), List.length_take, List.length_drop, hlen]
      decide
    let g : Nat → List Nat := fun i => [(atI l (ds.getD i 0 % (l.length : Int))).getD 0]
    refine q_asg (v := .str (S ((List.range 400).map g).flatten)) (ev_joinL (K := K) ev_c (by
      rw [← given_S]
      have hx : given 400 (fun _ => true) (fun i => V.str (S (g i))) = given (ds.map V.int).length (fun _ => true) (fun i => V.str (S (g i))) := by rw [List.length_map, hds]
      rw [hx]
      refine el_lcNL (K := K) (fun _ => true) (fun i => V.str (S (g i))) (by
        show EvL _ _ _ ((cutL rs (some 5) (some 405)).map V.int)
        rw [← cutL_ints]
        exact el_sl (ev_var rfl) (eo_some ev_c) (eo_some ev_c) (ex_l e2 hS)) (by rw [List.length_map, hds]; decide) (fun _ => rfl) (fun _ _ _ _ _ => et_yes) (fun i x H3 e3 hx _ => ?_)
      obtain ⟨z, hz, rfl⟩ := get_map hx
      have lp : (0 : Int) < (l.length : Int) := by omega
      obtain ⟨c, hc, _⟩ := at_get (l := l) (Int.emod_nonneg z (show ((l.length : Nat) : Int) ≠ 0 by omega)) (Int.emod_lt_of_pos z lp)
      have gi : g i = [c] := by
        show [(atI l (ds.getD i 0 % (l.length : Int))).getD 0] = [c]
        rw [List.getD_eq_getElem?_getD, hz]
        show [(atI l (z % (l.length : Int))).getD 0] = [c]
        rw [hc]
        rfl
      rw [gi]
      exact ev_op (ev_var rfl) (ev_op (ev_int (ev_var rfl)) (ev_lenSS (ev_var rfl) (by omega)) (rv_I lp)) (rv_ixSS (by omega) hc)) (Nat.le_trans (sum_range g 1 (fun _ => Nat.le_refl 1) 400) (by decide))) fun H3 e3 => ?_
    have hfr : (((List.range 400).map g).flatten).length = 400 := by
      rw [len_range g 1 (fun _ => rfl)]
    revert hfr e3
    generalize ((List.range 400).map g).flatten = fr
    intro e3 hfr
    have e03 := e2.trans e3
    -- part
    obtain ⟨n, hn, n1, n2⟩ := at_ints (ns := [1, 1, 2, 2, 2, 3, 3, 4, 5, 6, 8, 12]) (i := rs.getD 4 0) (fun z => 1 ≤ z ∧ z ≤ 12) (by decide) p0 (by show rs.getD 4 0 < 12; omega)
    refine q_asg (ev_slS (ev_var rfl) eo_none (eo_some (ev_ixNew (K := K) (el_lst (ea_cons ev_c (ea_cons ev_c (ea_cons ev_c (ea_cons ev_c (ea_cons ev_c (ea_cons ev_c (ea_cons ev_c (ea_cons ev_c (ea_cons ev_c (ea_cons ev_c (ea_cons ev_c (ea_cons ev_c ea_nil)))))))))))) (by show 12 ≤ 100000; decide)) (fun H4 e4 => (ev_op (ev_var rfl) ev_c (rv_ixL (K := K) (ex_l (e03.trans e4) hS) (at_d (i := 4) (by omega))))) hn)) (by omega)) fun H4 e4 => ?_
    have hpt : 1 ≤ (cutL fr none (some n)).length ∧ (cutL fr none (some n)).length ≤ 12 := by
      rw [cutL_to (by omega), List.length_take]
      omega
    revert hpt e4
    generalize cutL fr none (some n) = pt
    intro e4 hpt
    have e04 := e03.trans e4
    refine q_asg (ev_var rfl) fun H5 e5 => ?_
    have e05 := e04.trans e5
    let M : L2.St → Hp → Prop := fun σ' H' => ∃ (m : List Nat) (x : Option V), σ' = [some (.str (S l)), some (.ref p), some (.int 400), some (.int wd), some (.str (S fr)), some (.str (S pt)), some (.str (S m)), x, none, none, none] ∧ Ex H H' ∧ m.length ≤ 400000
    -- [6, 7]
    refine q_cutIf M (et_test (ev_inNew (K := K) (ev_op (ev_var rfl) ev_c (rv_ixL (K := K) (ex_l e05 hS) (at_d (i := 0) (by omega)))) (el_lst (ea_cons ev_c (ea_cons ev_c ea_nil)) (by show 2 ≤ 100000; decide)) rfl rfl)) (fun _ H6 e6 => ?_) (fun H6 e6 => ⟨fr, none, rfl, e05.trans e6, by omega⟩) ?_
    · obtain ⟨c, _, hc⟩ := at_S (H := H6) (l := pt) (i := 0) (by omega) (by omega) (by omega)
      exact s_asg (ev_op (ev_op (ev_var rfl) ev_c hc) ev_c (rv_repS (by decide) (by decide) (by show 1 * 400 ≤ _; decide))) fun H7 e7 => ⟨_, none, rfl, (e05.trans e6).trans e7, by
        rw [List.length_flatten, List.map_replicate, List.sum_replicate_nat]; show 400 * 1 ≤ _; decide⟩
    clear e05 e5
    rintro σ' H5 ⟨m, x, rfl, e05, hm⟩
    -- [8 .. 11]
    refine q_cutIf M (et_test (ev_inNew (K := K) (ev_op (ev_var rfl) ev_c (rv_ixL (K := K) (ex_l e05 hS) (at_d (i := 0) (by omega)))) (el_lst (ea_cons ev_c (ea_cons ev_c (ea_cons ev_c (ea_cons ev_c ea_nil)))) (by show 4 ≤ 100000; decide)) rfl rfl)) (fun _ H6 e6 => ?_) (fun H6 e6 => ⟨m, x, rfl, e05.trans e6, hm⟩) ?_
    · have hb : pt.length * (Int.toNat 400) ≤ 12 * 400 := Nat.mul_le_mul_right _ hpt.2
      exact s_asg (ev_op (ev_var rfl) ev_c (rv_repS (by decide) (by decide) (by omega))) fun H7 e7 => ⟨_, x, rfl, (e05.trans e6).trans e7, by
        rw [List.length_flatten, List.map_replicate, List.sum_replicate_nat, Nat.mul_comm]; omega⟩
    clear e05 hm x m
    rintro σ' H5 ⟨m, x, rfl, e05, hm⟩
    -- 12
    refine q_cutIf M (et_test (ev_op (ev_op (ev_var rfl) ev_c (rv_ixL (K := K) (ex_l e05 hS) (at_d (i := 0) (by omega)))) ev_c (rv_eq rfl))) (fun _ H6 e6 => ?_) (fun H6 e6 => ⟨m, x, rfl, e05.trans e6, hm⟩) ?_
    · exact s_call (ea_cons (ev_var rfl) ea_nil) fun H7 e7 => ⟨fr, rfl, by omega, by omega, fun l2 h2 H8 e8 => ⟨l2, x, rfl, ((e05.trans e6).trans e7).trans e8, by omega⟩⟩
    clear e05 hm x m
    rintro σ' H5 ⟨m, x, rfl, e05, hm⟩
    -- 13
    refine q_cutIf M (et_test (ev_op (ev_op (ev_var rfl) ev_c (rv_ixL (K := K) (ex_l e05 hS) (at_d (i := 0) (by omega)))) ev_c (rv_eq rfl))) (fun _ H6 e6 => ?_) (fun H6 e6 => ⟨m, x, rfl, e05.trans e6, hm⟩) ?_
    · exact s_call (ea_cons (ev_var rfl) ea_nil) fun H7 e7 => ⟨fr, rfl, by omega, by omega, fun l2 h2 H8 e8 => ⟨l2, x, rfl, ((e05.trans e6).trans e7).trans e8, by omega⟩⟩
    clear e05 hm x m
    rintro σ' H5 ⟨m, x, rfl, e05, hm⟩
    -- 14
    refine q_cutIf M (et_test (ev_op (ev_op (ev_var rfl) ev_c (rv_ixL (K := K) (ex_l e05 hS) (at_d (i := 0) (by omega)))) ev_c (rv_eq rfl))) (fun _ H6 e6 => ?_) (fun H6 e6 => ⟨m, x, rfl, e05.trans e6, hm⟩) ?_
    · exact s_call (ea_cons (ev_var rfl) (ea_cons (ev_var rfl) ea_nil)) fun H7 e7 => ⟨l, rfl, l1, l100, fun l2 h2 H8 e8 => ⟨l2, x, rfl, ((e05.trans e6).trans e7).trans e8, by omega⟩⟩
    clear e05 hm x m
    rintro σ' H5 ⟨m, x, rfl, e05, hm⟩
    -- [15, 16]
    have hb4 : pt.length * (Int.toNat 400) ≤ 12 * 400 := Nat.mul_le_mul_right _ hpt.2
    have hrep : ((List.replicate (Int.toNat 400) pt).flatten).length ≤ 4800 := by
      rw [List.length_flatten, List.map_replicate, List.sum_replicate_nat, Nat.mul_comm]; omega
    refine q_cutIf M (et_test (ev_inNew (K := K) (ev_op (ev_var rfl) ev_c (rv_ixL (K := K) (ex_l e05 hS) (at_d (i := 0) (by omega)))) (el_lst (ea_cons ev_c (ea_cons ev_c ea_nil)) (by show 2 ≤ 100000; decide)) rfl rfl)) (fun _ H6 e6 => ?_) (fun H6 e6 => ⟨m, x, rfl, e05.trans e6, hm⟩) ?_
    · refine q_asg (ev_op (ev_int (ev_op (ev_var rfl) ev_c (rv_ixL (K := K) (ex_l (e05.trans e6) hS) (at_d (i := 3) (by omega))))) (ev_op (ev_var rfl) ev_c rv_I0) (rv_I (show (0 : Int) < wd + 1 by omega))) fun H7 e7 => ?_
      obtain ⟨c, _, hc⟩ := at_S (H := H7) (l := fr) (i := 12) (by omega) (by omega) (by omega)
      have c1 := cutL_len (List.replicate (Int.toNat 400) pt).flatten none (some (rs.getD 3 0 % (wd + 1)))
      have c2 := cutL_len (List.replicate (Int.toNat 400) pt).flatten (some (rs.getD 3 0 % (wd + 1) + 1)) none
      refine s_asg (ev_op (ev_op (ev_slS (ev_op (ev_var rfl) ev_c (rv_repS (by decide) (by decide) (by omega))) eo_none (eo_some (ev_var rfl)) (by omega)) (ev_op (ev_var rfl) ev_c hc) (rv_addS (b := [c]) (by show _ + 1 ≤ _; omega)))
        (ev_slS (ev_op (ev_var rfl) ev_c (rv_repS (by decide) (by decide) (by omega))) (eo_some (ev_op (ev_var rfl) ev_c rv_I0)) eo_none (by omega)) (rv_addS (by rw [List.length_append]; show _ + 1 + _ ≤ _; omega))) fun H8 e8 => ⟨_, _, rfl, ((e05.trans e6).trans e7).trans e8, ?_⟩
      rw [List.length_append, List.length_append]
      show _ + 1 + _ ≤ _
      omega
    clear e05 hm x m
    rintro σ' H5 ⟨m, x, rfl, e05, hm⟩
    -- 17
    refine q_cutIf M (et_test (ev_op (ev_op (ev_var rfl) ev_c (rv_ixL (K := K) (ex_l e05 hS) (at_d (i := 0) (by omega)))) ev_c (rv_eq rfl))) (fun _ H6 e6 => ?_) (fun H6 e6 => ⟨m, x, rfl, e05.trans e6, hm⟩) ?_
    · obtain ⟨c, _, hc⟩ := at_S (H := H6) (l := pt) (i := 0) (by omega) (by omega) (by omega)
      have c1 := cutL_len fr none (some (rs.getD 3 0 % 21))
      have c2 : ((List.replicate (Int.toNat 400) [c]).flatten).length = 400 := by
        rw [List.length_flatten, List.map_replicate, List.sum_replicate_nat]; rfl
      refine s_asg (ev_op (ev_slS (ev_var rfl) eo_none (eo_some (ev_op (ev_int (ev_op (ev_var rfl) ev_c (rv_ixL (K := K) (ex_l (e05.trans e6) hS) (at_d (i := 3) (by omega))))) ev_c (rv_I (by decide)))) (by omega)) (ev_op (ev_op (ev_var rfl) ev_c hc) ev_c (rv_repS (by decide) (by decide) (by show 1 * 400 ≤ _; decide))) (rv_addS (by omega))) fun H7 e7 => ⟨_, _, rfl, (e05.trans e6).trans e7, ?_⟩
      rw [List.length_append]
      omega
    clear e05 hm x m
    rintro σ' H5 ⟨m, x, rfl, e05, hm⟩
    -- 18
    refine q_cutIf M (et_test (ev_op (ev_op (ev_var rfl) ev_c (rv_ixL (K := K) (ex_l e05 hS) (at_d (i := 0) (by omega)))) ev_c (rv_eq rfl))) (fun _ H6 e6 => ?_) (fun H6 e6 => ⟨m, x, rfl, e05.trans e6, hm⟩) ?_
    · let g1 : Nat → Nat → List Nat := fun k i => (List.replicate (min k 100) (match l[i]? with | some c => [c] | none => [])).flatten
      have g1l : ∀ k i, (g1 k i).length ≤ 100 := by
        intro k i
        show ((List.replicate (min k 100) (match l[i]? with | some c => [c] | none => [])).flatten).length ≤ 100
        rw [List.length_flatten, List.map_replicate, List.sum_replicate_nat]
        have : (match l[i]? with | some c => [c] | none => []).length ≤ 1 := by split <;> simp
        have h2 : min k 100 * (match l[i]? with | some c => [c] | none => []).length ≤ 100 * 1 := Nat.mul_le_mul (Nat.min_le_right _ _) this
        exact h2
      let g2 : Nat → List Nat := fun k => ((List.range l.length).map (g1 (1 + k))).flatten
      have g2l : ∀ k, (g2 k).length ≤ 10000 := fun k => Nat.le_trans (len_range_le _ 100 (g1l (1 + k)) _) (by have := Nat.mul_le_mul_right 100 l100; omega)
      refine s_asg (v := .str (S ((List.range 28).map g2).flatten)) (ev_joinL (K := K) ev_c (by
        rw [← given_S]
        refine el_lcR2 (lo := 1) (n := 29) (fun _ => true) (fun i => V.str (S (g2 i))) (ea_cons ev_c (ea_cons ev_c ea_nil)) ⟨by decide, by decide, by decide, by decide⟩ (fun _ => rfl) (fun _ _ _ _ => et_yes) (fun k H7 e7 hk _ => ?_)
        have hk28 : k < 28 := hk
        refine ev_joinL (K := K) ev_c (by
          rw [← given_S]
          refine el_lcS (fun _ => true) (fun i => V.str (S (g1 (1 + k) i))) (ev_var rfl) (by omega) (fun _ => rfl) (fun _ _ _ _ _ => et_yes) (fun i c H8 e8 hc _ => ?_)
          have hg : g1 (1 + k) i = (List.replicate ((1 : Int) + (k : Int)).toNat [c]).flatten := by
            show (List.replicate (min (1 + k) 100) (match l[i]? with | some c => [c] | none => [])).flatten = _
            rw [hc]
            have e1 : min (1 + k) 100 = 1 + k := by omega
            have e2 : ((1 : Int) + (k : Int)).toNat = 1 + k := by omega
            rw [e1, e2]
          rw [hg]
          exact ev_op (ev_var rfl) (ev_var rfl) (rv_repS (by omega) (by omega) (by show 1 * _ ≤ _; omega))) (Nat.le_trans (sum_range _ 100 (g1l (1 + k)) _) (by have := Nat.mul_le_mul_right 100 l100; omega))) (Nat.le_trans (sum_range g2 10000 g2l 28) (by decide))) fun H7 e7 => ⟨_, x, rfl, (e05.trans e6).trans e7, ?_⟩
      exact Nat.le_trans (len_range_le g2 10000 g2l 28) (by decide)
    clear e05 hm x m
    rintro σ' H5 ⟨m, x, rfl, e05, hm⟩
    -- 19
    refine q_cutIf M (et_test (ev_op (ev_op (ev_var rfl) ev_c (rv_ixL (K := K) (ex_l e05 hS) (at_d (i := 0) (by omega)))) ev_c (rv_eq rfl))) (fun _ H6 e6 => ?_) (fun H6 e6 => ⟨m, x, rfl, e05.trans e6, hm⟩) ?_
    · have c1 := cutL_len fr none (some (wd / 2))
      have c2 := cutL_len fr none (some (1 : Int))
      have h2 : (cutL fr none (some (wd / 2))).length * (Int.toNat 2) ≤ 400 * 2 := Nat.mul_le_mul_right _ (by omega)
      refine s_asg (ev_op (ev_op (ev_slS (ev_var rfl) eo_none (eo_some (ev_op (ev_var rfl) ev_c (rv_I ⟨by decide, by decide⟩))) (by omega)) ev_c (rv_repS (by decide) (by decide) (by omega))) (ev_slS (ev_var rfl) eo_none (eo_some ev_c) (by omega)) (rv_addS (by
        rw [List.length_flatten, List.map_replicate, List.sum_replicate_nat, Nat.mul_comm]
        omega))) fun H7 e7 => ⟨_, x, rfl, (e05.trans e6).trans e7, ?_⟩
      rw [List.length_append, List.length_flatten, List.map_replicate, List.sum_replicate_nat, Nat.mul_comm]
      omega
    clear e05 hm x m
    rintro σ' H5 ⟨m, x, rfl, e05, hm⟩
    -- > 19
    refine q_cutIf M (et_test (ev_op (ev_op (ev_var rfl) ev_c (rv_ixL (K := K) (ex_l e05 hS) (at_d (i := 0) (by omega)))) ev_c rv_I0)) (fun _ H6 e6 => ?_) (fun H6 e6 => ⟨m, x, rfl, e05.trans e6, hm⟩) ?_
    · let g3 : Nat → List Nat := fun k => cutL fr none (some ((1 : Int) + (k : Int)))
      have g3l : ∀ k, (g3 k).length ≤ 400 := fun k => by have := cutL_len fr none (some ((1 : Int) + (k : Int))); show (cutL fr none (some ((1 : Int) + (k : Int)))).length ≤ _; omega
      refine s_asg (v := .str (S ((List.range 28).map g3).flatten)) (ev_joinL (K := K) ev_c (by
        rw [← given_S]
        exact el_lcR2 (lo := 1) (n := 29) (fun _ => true) (fun i => V.str (S (g3 i))) (ea_cons ev_c (ea_cons ev_c ea_nil)) ⟨by decide, by decide, by decide, by decide⟩ (fun _ => rfl) (fun _ _ _ _ => et_yes) (fun k H7 e7 hk _ => ev_slS (ev_var rfl) eo_none (eo_some (ev_var rfl)) (by omega))) (Nat.le_trans (sum_range g3 400 g3l 28) (by decide))) fun H7 e7 => ⟨_, x, rfl, (e05.trans e6).trans e7, Nat.le_trans (len_range_le g3 400 g3l 28) (by decide)⟩
    clear e05 hm x m
    rintro σ' H5 ⟨m, x, rfl, e05, hm⟩
    refine s_ret (ev_slS (ev_var rfl) eo_none (eo_some (ev_var rfl)) (by omega)) fun H6 e6 => q _ ?_ H6 (e05.trans e6)
    rw [cutL_to wd0, List.length_take]
    omega
end
end My

set_option Elab.async false
set_option linter.all false
set_option maxRecDepth 100000
set_option maxHeartbeats 4000000
namespace My
open PySem PySem.Spec PyProof.Rows L2 Evl
open SX (S S_len S_cat S_beq S_beq_eq S_inj S_tl)
/-! ### rows of stretches -/
abbrev Parts := List (Int × Int)
def seg (line : List Nat) (p : Int × Int) : List Nat := cutL line (some p.1) (some p.2)
def stP (line : List Nat) (s : Option (Int × List (List Nat))) (p : Int × Int) : Option (Int × List (List Nat)) :=
  match s with
  | none => none
  | some (le, ws) => if (le ≤ p.1 ∧ p.1 < p.2 ∧ p.2 ≤ (line.length : Int)) ∧ seg line p ∉ ws then some (p.2, seg line p :: ws) else none
def stF (line : List Nat) (row : Parts) : Option (Int × List (List Nat)) := row.foldl (stP line) (some (0, []))
def goodF (line : List Nat) (row : Parts) : Bool := (stF line row).isSome
theorem st_none (line : List Nat) : ∀ row : Parts, row.foldl (stP line) none = none
  | [] => rfl
  | _ :: r => st_none line r
theorem stF_app (line : List Nat) (r1 r2 : Parts) : stF line (r1 ++ r2) = r2.foldl (stP line) (stF line r1) := List.foldl_append
theorem stF_take {line : List Nat} {row : Parts} {i : Nat} (h : i < row.length) : stF line (row.take (i + 1)) = stP line (stF line (row.take i)) (row.getD i (0, 0)) := by
  rw [List.take_succ_eq_append_getElem h, stF_app, List.getD_eq_getElem?_getD, List.getElem?_eq_getElem h]
  rfl
theorem bad_take {line : List Nat} {row : Parts} {i : Nat} (h : stF line (row.take i) = none) : goodF line row = false := by
  unfold goodF
  have e : stF line row = (row.drop i).foldl (stP line) (stF line (row.take i)) := by rw [← stF_app, List.take_append_drop]
  rw [e, h, st_none]
  rfl
theorem good_end {line : List Nat} {row : Parts} {s : Int × List (List Nat)} (h : stF line (row.take row.length) = some s) : goodF line row = true := by
  unfold goodF
  rw [List.take_length] at h
  rw [h]
  rfl
theorem stP_yes {line : List Nat} {le : Int} {ws : List (List Nat)} {p : Int × Int} (h : le ≤ p.1 ∧ p.1 < p.2 ∧ p.2 ≤ (line.length : Int)) (hw : seg line p ∉ ws) : stP line (some (le, ws)) p = some (p.2, seg line p :: ws) := if_pos ⟨h, hw⟩
theorem stP_no1 {line : List Nat} {le : Int} {ws : List (List Nat)} {p : Int × Int} (h : ¬ (le ≤ p.1 ∧ p.1 < p.2 ∧ p.2 ≤ (line.length : Int))) : stP line (some (le, ws)) p = none := if_neg fun c => h c.1
theorem stP_no2 {line : List Nat} {le : Int} {ws : List (List Nat)} {p : Int × Int} (h : seg line p ∈ ws) : stP line (some (le, ws)) p = none := if_neg fun c => c.2 h
/-! a row of objects -/
def pV (p : Int × Int) : List V := [.int p.1, .int p.2]
def Row (o i : List V → HO) (H : Hp) (p : Addr) (row : Parts) : Prop := ∃ ps : List Addr, H p = some (o (ps.map V.ref)) ∧ ps.length = row.length ∧ ∀ k, k < row.length → H (ps.getD k 0) = some (i (pV (row.getD k (0, 0))))
theorem Row.ex {o i : List V → HO} {H H' : Hp} {p : Addr} {row : Parts} (h : Row o i H p row) (e : Ex H H') : Row o i H' p row := by
  obtain ⟨ps, a, b, c⟩ := h
  exact ⟨ps, e _ _ a, b, fun k hk => e _ _ (c k hk)⟩
abbrev RowT := Row .lst .tup
abbrev RowL := Row .lst .lst
abbrev RowU := Row .tup .tup
theorem ref_at {ps : List Addr} {k : Nat} {x : V} (h : (ps.map V.ref)[k]? = some x) : x = .ref (ps.getD k 0) ∧ k < ps.length := by
  rw [List.getElem?_map] at h
  cases e : ps[k]? with
  | none => rw [e] at h; cases h
  | some a =>
    rw [e] at h
    refine ⟨?_, (List.getElem?_eq_some_iff.mp e).1⟩
    rw [List.getD_eq_getElem?_getD, e]
    exact (Option.some.inj h).symm
theorem atI_ref {ps : List Addr} {k : Nat} (h : k < ps.length) : atI (ps.map V.ref) (k : Int) = some (.ref (ps.getD k 0)) := atI_nat (by
  rw [List.getElem?_map, List.getElem?_eq_getElem h, List.getD_eq_getElem?_getD, List.getElem?_eq_getElem h]
  rfl)
theorem p0 (p : Int × Int) : atI (pV p) 0 = some (.int p.1) := rfl
theorem p1 (p : Int × Int) : atI (pV p) 1 = some (.int p.2) := rfl
end My

set_option Elab.async false
set_option linter.all false
set_option maxRecDepth 100000
set_option maxHeartbeats 4000000
namespace My
open PySem PySem.Spec PyProof.Rows L2 Evl
open SX (S S_len S_cat S_beq S_beq_eq S_inj S_tl)
section
variable {P : Program} {w : World} {K : PySem.W.Frag} {mg : Str → Option Value} {base : Heap}
abbrev s_are_unlike : Stmt := top 1
abbrev N_are_unlike : List Str := ["text", "stretches", "known", "least", "start", "end", "word"]
theorem sc_are_unlike : FnScope N_are_unlike ["text", "stretches"] (defScope s_are_unlike) := ⟨rfl, rfl, rfl, by decide +kernel, rfl, by decide +kernel, by decide +kernel⟩
def spUn : Sp := fun vs H Q _ => ∃ (line : List Nat) (p : Addr) (row : Parts), vs = [.str (S line), .ref p] ∧ line.length ≤ 100000 ∧ row.length ≤ 10000 ∧ (RowL H p row ∨ RowU H p row) ∧ RetV (.bl (goodF line row)) H Q
theorem ok_are_unlike (T : TT mg) (F : At K mg "are_unlike" s_are_unlike) : Dn P w K mg base 1 "are_unlike" s_are_unlike ["text", "stretches"] spUn := by
  refine dn_ok F sc_are_unlike (fun _ _ _ _ _ _ us hl => match us, hl with | [_, _], _ => rfl) (fun vs H Q E h => ?_) (fun f cdv A outer t H vs Q E hr h => ?_)
  · obtain ⟨line, p, row, rfl, _⟩ := h; rfl
  · obtain ⟨line, p, row, rfl, hz, hrw, hR, q⟩ := h
    rcases hR with ⟨ps, hp, hpl, hps⟩ | ⟨ps, hp, hpl, hps⟩
    · refine ⟨_, (pss_cons (ps_set (i := 2) sc_are_unlike.nd rfl (Or.inl rfl) pe_dnewK)
      (pss_cons (ps_set (i := 3) sc_are_unlike.nd rfl (Or.inl rfl) pe_int)
      (pss_cons (ps_for PassesOwn.never rfl (pi_list (pv 1)) (pg_lst rfl (pgs_cons (pg_name (i := 4) sc_are_unlike.nd rfl (Or.inl rfl)) (pgs_cons (pg_name (i := 5) sc_are_unlike.nd rfl (Or.inl rfl)) pgs_nil)))
        (pss_cons (ps_if (pt_not (pt_chain3 op_le op_lt op_le (pv 3) (pv 4) (pv 5) (pe_callB call_len_str (by rfl) T.len boot_len (pa_cons (pv 0) pa_nil)))) (pss_one (ps_ret pe_bl)) pss_nil)
          (pss_cons (ps_set (i := 6) sc_are_unlike.nd rfl (Or.inl rfl) (pe_slice sl_str (pv 0) (po_some (pv 4)) (po_some (pv 5))))
          (pss_cons (ps_if (pt_cmp (pc_din (hu_of hr) (pv 6) (pv 2))) (pss_one (ps_ret pe_bl)) pss_nil)
          (pss_cons (ps_dput (hu_of hr) (pv 2) (pv 6) pe_bl rfl)
          (pss_one (ps_set (i := 3) sc_are_unlike.nd rfl (Or.inl rfl) (pv 5))))))))
      (pss_one (ps_ret pe_bl))))), ?_⟩
      refine q_dnew fun d H1 nd hd e1 => ?_
      refine q_asg ev_c fun H2 e2 => ?_
      refine q_forL (K := K) (ev_var rfl) (sq_of (e2 _ _ (e1 _ _ hp))) (fun i σ' H' => ∃ (le : Int) (ws : List (List Nat)) (x y z : Option V), σ' = [some (.str (S line)), some (.ref p), some (.ref d), some (.int le), x, y, z] ∧ Ex H H' ∧ DW H' d ws ∧ stF line (row.take i) = some (le, ws) ∧ ws.length ≤ i)
        (fun H3 e3 => ⟨0, [], none, none, none, rfl, (e1.trans e2).trans e3, (hd.ex e2).ex e3, rfl, Nat.le_refl _⟩) (fun i σ' H' _ ⟨_, _, _, _, _, _, e, _⟩ => sq_of (e _ _ hp)) ?_ ?_
      · rintro i x σ' H' hx ⟨le, ws, x1, y1, z1, rfl, e, hdw, hst, hws⟩
        obtain ⟨rfl, hi0⟩ := ref_at hx
        have hi : i < row.length := by omega
        have hpi := e _ _ (hps i hi)
        refine ⟨_, _, rfl, sq_of hpi, rfl, ?_⟩
        have hnx := stF_take (line := line) hi
        rw [hst] at hnx
        revert hpi hnx
        generalize row.getD i (0, 0) = pt
        intro hpi hnx
        obtain ⟨a, b⟩ := pt
        refine ⟨_, _, rfl, ⟨_, _, rfl, ⟨rfl, ?_⟩⟩⟩
        show tSeq _ _ _ [some (V.str (S line)), some (V.ref p), some (V.ref d), some (V.int le), some (V.int a), some (V.int b), z1] H'
        refine q_when (et_not (et_chain3 (ev_var rfl) (ev_var rfl) (ev_var rfl) (ev_lenSS (ev_var rfl) (by omega)) rv_I0 rv_I0 rv_I0)) (fun hb H3 e3 => ?_) (fun hb H3 e3 => ?_)
        · refine s_ret ev_c fun H4 e4 => ?_
          rw [stP_no1 (by
            rintro ⟨c1, c2, c3⟩
            have c1' : le ≤ a := c1
            have c2' : a < b := c2
            have c3' : b ≤ (line.length : Int) := c3
            simp [c1', c2', c3'] at hb)] at hnx
          rw [bad_take hnx] at q
          exact q H4 ((e.trans e3).trans e4)
        have hok : le ≤ a ∧ a < b ∧ b ≤ (line.length : Int) := by
          have := hb
          simp only [Bool.not_eq_false', Bool.and_eq_true, decide_eq_true_eq] at this
          exact this
        refine q_asg (ev_slS (ev_var rfl) (eo_some (ev_var rfl)) (eo_some (ev_var rfl)) (by omega)) fun H4 e4 => ?_
        have e34 := e3.trans e4
        refine q_when (et_B (ev_din (w := seg line (a, b)) (ev_var rfl) (ev_var rfl) (hdw.ex e34))) (fun hb2 H5 e5 => ?_) (fun hb2 H5 e5 => ?_)
        · refine s_ret ev_c fun H6 e6 => ?_
          rw [stP_no2 (of_decide_eq_true hb2)] at hnx
          rw [bad_take hnx] at q
          exact q H6 (((e.trans e34).trans e5).trans e6)
        rw [stP_yes hok (of_decide_eq_false hb2)] at hnx
        refine q_dput (w := seg line (a, b)) ev_c (ev_var rfl) (ev_var rfl) ((hdw.ex e34).ex e5) (by omega) fun H6 e6 kvs hdw2 => ?_
        refine s_asg (ev_var rfl) fun H7 e7 => ⟨b, _, _, _, _, rfl, (Ex.mut (((e.trans e34).trans e5).trans e6) nd).trans e7, hdw2.ex e7, hnx, Nat.succ_le_succ hws⟩
      · rintro σ' H' ⟨le, ws, x1, y1, z1, rfl, e, hdw, hst, hws⟩
        have hln : (ps.map V.ref).length = row.length := by rw [List.length_map, hpl]
        rw [hln] at hst
        rw [good_end hst] at q
        exact s_ret ev_c fun H3 e3 => q H3 (e.trans e3)
    · refine ⟨_, (pss_cons (ps_set (i := 2) sc_are_unlike.nd rfl (Or.inl rfl) pe_dnewK)
      (pss_cons (ps_set (i := 3) sc_are_unlike.nd rfl (Or.inl rfl) pe_int)
      (pss_cons (ps_for PassesOwn.never rfl (pi_tup (pv 1)) (pg_tup rfl (pgs_cons (pg_name (i := 4) sc_are_unlike.nd rfl (Or.inl rfl)) (pgs_cons (pg_name (i := 5) sc_are_unlike.nd rfl (Or.inl rfl)) pgs_nil)))
        (pss_cons (ps_if (pt_not (pt_chain3 op_le op_lt op_le (pv 3) (pv 4) (pv 5) (pe_callB call_len_str (by rfl) T.len boot_len (pa_cons (pv 0) pa_nil)))) (pss_one (ps_ret pe_bl)) pss_nil)
          (pss_cons (ps_set (i := 6) sc_are_unlike.nd rfl (Or.inl rfl) (pe_slice sl_str (pv 0) (po_some (pv 4)) (po_some (pv 5))))
          (pss_cons (ps_if (pt_cmp (pc_din (hu_of hr) (pv 6) (pv 2))) (pss_one (ps_ret pe_bl)) pss_nil)
          (pss_cons (ps_dput (hu_of hr) (pv 2) (pv 6) pe_bl rfl)
          (pss_one (ps_set (i := 3) sc_are_unlike.nd rfl (Or.inl rfl) (pv 5))))))))
      (pss_one (ps_ret pe_bl))))), ?_⟩
      refine q_dnew fun d H1 nd hd e1 => ?_
      refine q_asg ev_c fun H2 e2 => ?_
      refine q_forT (K := K) (ev_var rfl) (st_of (e2 _ _ (e1 _ _ hp))) (fun i σ' H' => ∃ (le : Int) (ws : List (List Nat)) (x y z : Option V), σ' = [some (.str (S line)), some (.ref p), some (.ref d), some (.int le), x, y, z] ∧ Ex H H' ∧ DW H' d ws ∧ stF line (row.take i) = some (le, ws) ∧ ws.length ≤ i)
        (fun H3 e3 => ⟨0, [], none, none, none, rfl, (e1.trans e2).trans e3, (hd.ex e2).ex e3, rfl, Nat.le_refl _⟩) (fun i σ' H' _ ⟨_, _, _, _, _, _, e, _⟩ => st_of (e _ _ hp)) ?_ ?_
      · rintro i x σ' H' hx ⟨le, ws, x1, y1, z1, rfl, e, hdw, hst, hws⟩
        obtain ⟨rfl, hi0⟩ := ref_at hx
        have hi : i < row.length := by omega
        have hpi := e _ _ (hps i hi)
        refine ⟨_, _, rfl, st_of hpi, rfl, ?_⟩
        have hnx := stF_take (line := line) hi
        rw [hst] at hnx
        revert hpi hnx
        generalize row.getD i (0, 0) = pt
        intro hpi hnx
        obtain ⟨a, b⟩ := pt
        refine ⟨_, _, rfl, ⟨_, _, rfl, ⟨rfl, ?_⟩⟩⟩
        show tSeq _ _ _ [some (V.str (S line)), some (V.ref p), some (V.ref d), some (V.int le), some (V.int a), some (V.int b), z1] H'
        refine q_when (et_not (et_chain3 (ev_var rfl) (ev_var rfl) (ev_var rfl) (ev_lenSS (ev_var rfl) (by omega)) rv_I0 rv_I0 rv_I0)) (fun hb H3 e3 => ?_) (fun hb H3 e3 => ?_)
        · refine s_ret ev_c fun H4 e4 => ?_
          rw [stP_no1 (by
            rintro ⟨c1, c2, c3⟩
            have c1' : le ≤ a := c1
            have c2' : a < b := c2
            have c3' : b ≤ (line.length : Int) := c3
            simp [c1', c2', c3'] at hb)] at hnx
          rw [bad_take hnx] at q
          exact q H4 ((e.trans e3).trans e4)
        have hok : le ≤ a ∧ a < b ∧ b ≤ (line.length : Int) := by
          have := hb
          simp only [Bool.not_eq_false', Bool.and_eq_true, decide_eq_true_eq] at this
          exact this
        refine q_asg (ev_slS (ev_var rfl) (eo_some (ev_var rfl)) (eo_some (ev_var rfl)) (by omega)) fun H4 e4 => ?_
        have e34 := e3.trans e4
        refine q_when (et_B (ev_din (w := seg line (a, b)) (ev_var rfl) (ev_var rfl) (hdw.ex e34))) (fun hb2 H5 e5 => ?_) (fun hb2 H5 e5 => ?_)
        · refine s_ret ev_c fun H6 e6 => ?_
          rw [stP_no2 (of_decide_eq_true hb2)] at hnx
          rw [bad_take hnx] at q
          exact q H6 (((e.trans e34).trans e5).trans e6)
        rw [stP_yes hok (of_decide_eq_false hb2)] at hnx
        refine q_dput (w := seg line (a, b)) ev_c (ev_var rfl) (ev_var rfl) ((hdw.ex e34).ex e5) (by omega) fun H6 e6 kvs hdw2 => ?_
        refine s_asg (ev_var rfl) fun H7 e7 => ⟨b, _, _, _, _, rfl, (Ex.mut (((e.trans e34).trans e5).trans e6) nd).trans e7, hdw2.ex e7, hnx, Nat.succ_le_succ hws⟩
      · rintro σ' H' ⟨le, ws, x1, y1, z1, rfl, e, hdw, hst, hws⟩
        have hln : (ps.map V.ref).length = row.length := by rw [List.length_map, hpl]
        rw [hln] at hst
        rw [good_end hst] at q
        exact s_ret ev_c fun H3 e3 => q H3 (e.trans e3)
abbrev s_law_reading : Stmt := top 13
abbrev N_law_reading : List Str := ["line", "row", "reached", "seen", "part", "word"]
theorem sc_law_reading : FnScope N_law_reading ["line", "row"] (defScope s_law_reading) := ⟨rfl, rfl, rfl, by decide +kernel, rfl, by decide +kernel, by decide +kernel⟩
def spRd : Sp := fun vs H Q _ => ∃ (line : List Nat) (p : Addr) (row : Parts), vs = [.str (S line), .ref p] ∧ line.length ≤ 100000 ∧ row.length ≤ 10000 ∧ RowT H p row ∧ RetV (.bl (goodF line row)) H Q
theorem ok_law_reading (T : TT mg) (F : At K mg "_law_reading" s_law_reading) : Dn P w K mg base 1 "_law_reading" s_law_reading ["line", "row"] spRd := by
  refine dn_ok F sc_law_reading (fun _ _ _ _ _ _ us hl => match us, hl with | [_, _], _ => rfl) (fun vs H Q E h => ?_) (fun f cdv A outer t H vs Q E hr h => ?_)
  · obtain ⟨line, p, row, rfl, _⟩ := h; rfl
  · obtain ⟨line, p, row, rfl, hz, hrw, ⟨ps, hp, hpl, hps⟩, q⟩ := h
    have hpsd := hps
    refine ⟨_, (pss_cons (ps_set (i := 2) sc_law_reading.nd rfl (Or.inl rfl) pe_int)
      (pss_cons (ps_set (i := 3) sc_law_reading.nd rfl (Or.inl rfl) pe_dnewK)
      (pss_cons (ps_for PassesOwn.never rfl (pi_list (pv 1)) (pg_name (i := 4) sc_law_reading.nd rfl (Or.inl rfl))
        (pss_cons (ps_if (PW.pt (pw_or (pt_cmpR op_lt (pe_ix ix_tup (pv 4) pe_int (fun _ _ => rfl)) (pv 2) (nomark _)) (pw_or (pt_cmpR op_ge (pe_ix ix_tup (pv 4) pe_int (fun _ _ => rfl)) (pe_ix ix_tup (pv 4) pe_int (fun _ _ => rfl)) (nomark _)) (pw_or1 (pt_cmpR op_gt (pe_ix ix_tup (pv 4) pe_int (fun _ _ => rfl)) (pe_callB call_len_str (by rfl) T.len boot_len (pa_cons (pv 0) pa_nil)) (nomark _)))))) (pss_one (ps_ret pe_bl)) pss_nil)
          (pss_cons (ps_set (i := 5) sc_law_reading.nd rfl (Or.inl rfl) (pe_slice sl_str (pv 0) (po_some (pe_ix ix_tup (pv 4) pe_int (fun _ _ => rfl))) (po_some (pe_ix ix_tup (pv 4) pe_int (fun _ _ => rfl)))))
          (pss_cons (ps_if (pt_cmp (pc_din (hu_of hr) (pv 5) (pv 3))) (pss_one (ps_ret pe_bl)) pss_nil)
          (pss_cons (ps_dput (hu_of hr) (pv 3) (pv 5) pe_bl rfl)
          (pss_one (ps_set (i := 2) sc_law_reading.nd rfl (Or.inl rfl) (pe_ix ix_tup (pv 4) pe_int (fun _ _ => rfl)))))))))
      (pss_one (ps_ret pe_bl))))), ?_⟩
    refine q_asg ev_c fun H1 e1 => ?_
    refine q_dnew fun d H2 nd0 hd e2 => ?_
    have nd := fresh_back e1 nd0
    refine q_forLn (K := K) (ev_var rfl) (sq_of (e2 _ _ (e1 _ _ hp))) (fun i σ' H' => ∃ (le : Int) (ws : List (List Nat)) (x y : Option V), σ' = [some (.str (S line)), some (.ref p), some (.int le), some (.ref d), x, y] ∧ Ex H H' ∧ DW H' d ws ∧ stF line (row.take i) = some (le, ws) ∧ ws.length ≤ i)
        (fun H3 e3 => ⟨0, [], none, none, rfl, (e1.trans e2).trans e3, hd.ex e3, rfl, Nat.le_refl _⟩) (fun i σ' H' _ ⟨_, _, _, _, _, e, _⟩ => sq_of (e _ _ hp)) ?_ ?_
    · rintro i x σ' H' hx ⟨le, ws, x1, y1, rfl, e, hdw, hst, hws⟩
      obtain ⟨rfl, hi0⟩ := ref_at hx
      have hi : i < row.length := by omega
      have hpi := e _ _ (hps i hi)
      have hnx := stF_take (line := line) hi
      rw [hst] at hnx
      revert hpi hnx
      generalize row.getD i (0, 0) = pt
      intro hpi hnx
      have g0 : ∀ H1, Ex H' H1 → ∀ σ : L2.St, σ[4]? = some (some (.ref (ps.getD i 0))) → Ev (tOp (rIxT K) (tVar 4) (tC (.int 0))) σ H1 (.int pt.1) := fun H1 e1 σ hσ => ev_op (ev_var hσ) ev_c (rv_ixT (K := K) (st_of (e1 _ _ hpi)) (p0 pt))
      have g1 : ∀ H1, Ex H' H1 → ∀ σ : L2.St, σ[4]? = some (some (.ref (ps.getD i 0))) → Ev (tOp (rIxT K) (tVar 4) (tC (.int 1))) σ H1 (.int pt.2) := fun H1 e1 σ hσ => ev_op (ev_var hσ) ev_c (rv_ixT (K := K) (st_of (e1 _ _ hpi)) (p1 pt))
      have r := Ex.refl H'
      refine q_when (et_or (et_test (ev_op (g0 H' r _ rfl) (ev_var rfl) rv_I0)) fun _ => et_or (et_test (ev_op (g0 H' r _ rfl) (g1 H' r _ rfl) rv_I0)) fun _ => et_test (ev_op (g1 H' r _ rfl) (ev_lenSS (ev_var rfl) (by omega)) rv_I0)) (fun hb H3 e3 => ?_) (fun hb H3 e3 => ?_)
      · refine s_ret ev_c fun H4 e4 => ?_
        rw [stP_no1 (by
          rintro ⟨c1, c2, c3⟩
          simp at hb
          omega)] at hnx
        rw [bad_take hnx] at q
        exact q H4 ((e.trans e3).trans e4)
      have hok : le ≤ pt.1 ∧ pt.1 < pt.2 ∧ pt.2 ≤ (line.length : Int) := by
        simp at hb
        omega
      refine q_asg (ev_slS (ev_var rfl) (eo_some (g0 H3 e3 _ rfl)) (eo_some (g1 H3 e3 _ rfl)) (by omega)) fun H4 e4 => ?_
      have e34 := e3.trans e4
      refine q_when (et_B (ev_din (w := seg line pt) (ev_var rfl) (ev_var rfl) (hdw.ex e34))) (fun hb2 H5 e5 => ?_) (fun hb2 H5 e5 => ?_)
      · refine s_ret ev_c fun H6 e6 => ?_
        rw [stP_no2 (of_decide_eq_true hb2)] at hnx
        rw [bad_take hnx] at q
        exact q H6 (((e.trans e34).trans e5).trans e6)
      rw [stP_yes hok (of_decide_eq_false hb2)] at hnx
      refine q_dput (w := seg line pt) ev_c (ev_var rfl) (ev_var rfl) ((hdw.ex e34).ex e5) (by omega) fun H6 e6 kvs hdw2 => ?_
      have hE := Ex.mut (((e.trans e34).trans e5).trans e6) (o := .dK kvs) nd
      have hpi2 : (upd H6 d (.dK kvs)) (ps.getD i 0) = some (.tup (pV pt)) := by
        rw [upd_ne (ne_of_none (hpsd i hi) nd)]
        exact e6 _ _ (e5 _ _ (e34 _ _ hpi))
      exact s_asg (ev_op (ev_var rfl) ev_c (rv_ixT (K := K) (st_of hpi2) (p1 pt))) fun H7 e7 => ⟨pt.2, _, _, _, rfl, hE.trans e7, hdw2.ex e7, hnx, Nat.succ_le_succ hws⟩
    · rintro σ' H' ⟨le, ws, x1, y1, rfl, e, hdw, hst, hws⟩
      have hln : (ps.map V.ref).length = row.length := by rw [List.length_map, hpl]
      rw [hln] at hst
      rw [good_end hst] at q
      exact s_ret ev_c fun H3 e3 => q H3 (e.trans e3)
end
end My

set_option Elab.async false
set_option linter.all false
set_option maxRecDepth 100000
set_option maxHeartbeats 4000000
namespace My
open PySem PySem.Spec PyProof.Rows L2 Evl
open SX (S S_len S_cat S_beq S_beq_eq S_inj S_tl)
/-- a row and its places -/
def RowX (H : Hp) (p : Addr) (row : Parts) (ps : List Addr) : Prop := H p = some (.lst (ps.map V.ref)) ∧ ps.length = row.length ∧ ∀ k, k < row.length → H (ps.getD k 0) = some (.tup (pV (row.getD k (0, 0))))
theorem RowX.row {H : Hp} {p : Addr} {row : Parts} {ps : List Addr} (h : RowX H p row ps) : RowT H p row := ⟨ps, h⟩
theorem RowX.ex {H H' : Hp} {p : Addr} {row : Parts} {ps : List Addr} (h : RowX H p row ps) (e : Ex H H') : RowX H' p row ps := ⟨e _ _ h.1, h.2.1, fun k hk => e _ _ (h.2.2 k hk)⟩
theorem RowX.upd {H : Hp} {p d : Addr} {row : Parts} {ps : List Addr} {o u : HO} (h : RowX H p row ps) (hd : H d = some u) (h1 : ∀ xs, u ≠ .lst xs) (h2 : ∀ xs, u ≠ .tup xs) : RowX (upd H d o) p row ps :=
  ⟨by rw [upd_ne (ne_of h.1 hd fun c => h1 _ c.symm)]; exact h.1, h.2.1, fun k hk => by rw [upd_ne (ne_of (h.2.2 k hk) hd fun c => h2 _ c.symm)]; exact h.2.2 k hk⟩
theorem getD_snoc {α : Type} (l : List α) (x d : α) (k : Nat) : (l ++ [x]).getD k d = if k < l.length then l.getD k d else if k = l.length then x else d := by
  rw [List.getD_eq_getElem?_getD, List.getD_eq_getElem?_getD]
  by_cases h : k < l.length
  · rw [if_pos h, List.getElem?_append_left h]
  · rw [if_neg h, List.getElem?_append_right (by omega)]
    by_cases e : k = l.length
    · subst e; simp
    · rw [if_neg e, List.getElem?_eq_none (by simp; omega)]; rfl
/-- one more part, at q -/
theorem RowX.app {H : Hp} {p q : Addr} {row : Parts} {ps : List Addr} {pt : Int × Int} (h : RowX H p row ps) (hq : H q = some (.tup (pV pt))) : RowX (L2.upd H p (.lst (ps.map V.ref ++ [.ref q]))) p (row ++ [pt]) (ps ++ [q]) := by
  refine ⟨?_, by rw [List.length_append, List.length_append, h.2.1]; rfl, fun k hk => ?_⟩
  · rw [List.map_append]
    exact upd_same
  · rw [getD_snoc, getD_snoc, h.2.1]
    by_cases c : k < row.length
    · rw [if_pos c, if_pos c, upd_ne (ne_of (h.2.2 k c) h.1 (by intro z; cases z))]
      exact h.2.2 k c
    · have e : k = row.length := by rw [List.length_append] at hk; simp at hk; omega
      rw [if_neg c, if_neg c, if_pos e, if_pos e, upd_ne (ne_of hq h.1 (by intro z; cases z))]
      exact hq
/-- the last part put anew, at q -/
theorem RowX.last {H : Hp} {p q : Addr} {row : Parts} {ps : List Addr} {pt : Int × Int} (h : RowX H p row ps) (hr : row ≠ []) (hq : H q = some (.tup (pV pt))) :
    RowX (L2.upd H p (.lst ((ps.map V.ref).set (row.length - 1) (.ref q)))) p (row.dropLast ++ [pt]) (ps.dropLast ++ [q]) := by
  have hl : 0 < row.length := List.length_pos_iff.mpr hr
  have e : (ps.map V.ref).set (row.length - 1) (.ref q) = (ps.dropLast.map V.ref) ++ [.ref q] := by
    have hp : ps ≠ [] := by intro c; rw [c] at h; have := h.2.1; simp at this; omega
    obtain ⟨qs, y, rfl⟩ : ∃ qs y, ps = qs ++ [y] := ⟨ps.dropLast, ps.getLast hp, (List.dropLast_concat_getLast hp).symm⟩
    have : row.length - 1 = (qs.map V.ref).length := by have := h.2.1; simp at this; rw [List.length_map]; omega
    rw [this, List.map_append, List.dropLast_concat, List.set_append_right _ _ (Nat.le_refl _), Nat.sub_self]
    rfl
  rw [e]
  have h2 : ps.dropLast.length = row.dropLast.length := by rw [List.length_dropLast, List.length_dropLast, h.2.1]
  refine ⟨?_, by rw [List.length_append, List.length_append, h2]; rfl, fun k hk => ?_⟩
  · rw [List.map_append]
    exact upd_same
  · rw [getD_snoc, getD_snoc, h2]
    by_cases c : k < row.dropLast.length
    · have ck : k < row.length := by rw [List.length_dropLast] at c; omega
      have g1 : ps.dropLast.getD k 0 = ps.getD k 0 := by
        rw [List.getD_eq_getElem?_getD, List.getD_eq_getElem?_getD, List.getElem?_dropLast, if_pos (by rw [List.length_dropLast] at c; rw [h.2.1]; omega)]
      have g2 : row.dropLast.getD k (0, 0) = row.getD k (0, 0) := by
        rw [List.getD_eq_getElem?_getD, List.getD_eq_getElem?_getD, List.getElem?_dropLast, if_pos (by rw [List.length_dropLast] at c; omega)]
      rw [if_pos c, if_pos c, g1, g2, upd_ne (ne_of (h.2.2 k ck) h.1 (by intro z; cases z))]
      exact h.2.2 k ck
    · have e : k = row.dropLast.length := by rw [List.length_append] at hk; simp at hk; simp at c; rw [List.length_dropLast]; omega
      rw [if_neg c, if_neg c, if_pos e, if_pos e, upd_ne (ne_of hq h.1 (by intro z; cases z))]
      exact hq
/-! parts in order -/
def InOrd (n : Int) : Int → Parts → Prop
  | _, [] => True
  | lo, p :: r => lo ≤ p.1 ∧ p.1 < p.2 ∧ p.2 ≤ n ∧ InOrd n p.2 r
def endF : Int → Parts → Int
  | lo, [] => lo
  | _, p :: r => endF p.2 r
theorem ord_snoc {n : Int} {pt : Int × Int} : ∀ {lo : Int} {row : Parts}, InOrd n lo (row ++ [pt]) ↔ InOrd n lo row ∧ endF lo row ≤ pt.1 ∧ pt.1 < pt.2 ∧ pt.2 ≤ n
  | lo, [] => by simp [InOrd, endF]
  | lo, p :: r => by
    have ih := @ord_snoc n pt p.2 r
    show (lo ≤ p.1 ∧ p.1 < p.2 ∧ p.2 ≤ n ∧ InOrd n p.2 (r ++ [pt])) ↔ (lo ≤ p.1 ∧ p.1 < p.2 ∧ p.2 ≤ n ∧ InOrd n p.2 r) ∧ endF p.2 r ≤ pt.1 ∧ pt.1 < pt.2 ∧ pt.2 ≤ n
    rw [ih]
    constructor
    · rintro ⟨a, b, c, d, e⟩; exact ⟨⟨a, b, c, d⟩, e⟩
    · rintro ⟨⟨a, b, c, d⟩, e⟩; exact ⟨a, b, c, d, e⟩
theorem end_snoc (pt : Int × Int) : ∀ (lo : Int) (row : Parts), endF lo (row ++ [pt]) = pt.2
  | _, [] => rfl
  | _, p :: r => end_snoc pt p.2 r
theorem ord_at {n : Int} : ∀ {lo : Int} {row : Parts} {i : Nat}, InOrd n lo row → i < row.length → endF lo (row.take i) ≤ (row.getD i (0, 0)).1 ∧ (row.getD i (0, 0)).1 < (row.getD i (0, 0)).2 ∧ (row.getD i (0, 0)).2 ≤ n := by
  intro lo row i h hi
  have e : row = row.take i ++ (row.getD i (0, 0) :: row.drop (i + 1)) := by
    rw [List.getD_eq_getElem?_getD, List.getElem?_eq_getElem hi]
    show row = row.take i ++ (row[i] :: row.drop (i + 1))
    rw [← List.drop_eq_getElem_cons hi, List.take_append_drop]
  have key : ∀ (lo : Int) (r1 r2 : Parts) (pt : Int × Int), InOrd n lo (r1 ++ (pt :: r2)) → endF lo r1 ≤ pt.1 ∧ pt.1 < pt.2 ∧ pt.2 ≤ n := by
    intro lo r1
    induction r1 generalizing lo with
    | nil => intro r2 pt h; exact ⟨h.1, h.2.1, h.2.2.1⟩
    | cons p r ih => intro r2 pt h; exact ih p.2 r2 pt h.2.2.2
  rw [e] at h
  exact key lo _ _ _ h
theorem end_take {row : Parts} {i : Nat} (h : i < row.length) (lo : Int) : endF lo (row.take (i + 1)) = (row.getD i (0, 0)).2 := by
  rw [List.take_succ_eq_append_getElem h, end_snoc, List.getD_eq_getElem?_getD, List.getElem?_eq_getElem h]
  rfl
theorem stF_snoc {line : List Nat} {row : Parts} {pt : Int × Int} {le : Int} {ws : List (List Nat)} (h : stF line row = some (le, ws)) (h1 : le ≤ pt.1) (h2 : pt.1 < pt.2) (h3 : pt.2 ≤ (line.length : Int)) (h4 : seg line pt ∉ ws) : stF line (row ++ [pt]) = some (pt.2, seg line pt :: ws) := by
  rw [stF_app, h]
  exact stP_yes ⟨h1, h2, h3⟩ h4
theorem good_of {line : List Nat} {row : Parts} {s : Int × List (List Nat)} (h : stF line row = some s) : goodF line row = true := by
  unfold goodF
  rw [h]
  rfl
/-- xs[i] = (.., ..) -/
theorem s_setLU {σ : L2.St} {H : Hp} {ta tb te : TE} {D : Ends} {l : Addr} {xs ys : List V} {i : Int} {j : Nat} (hl : H l = some (.lst xs)) (h : EvU te σ H ys) (ho : Ev ta σ H (.ref l)) (hi : Ev tb σ H (.int i)) (hj : ixN xs.length i = some j) (k : ∀ p H1, H p = none → Ex H H1 → H1 p = some (.tup ys) → D.nx σ (upd H1 l (.lst (xs.set j (.ref p))))) :
    tAsg te (gSub ta tb rSetL) D σ H := h H (Ex.refl H) _ fun p H1 hp e1 h1 => ho H1 e1 _ fun H2 e2 => hi H2 (e1.trans e2) _ fun H3 e3 =>
  ⟨l, xs, i, j, rfl, rfl, ((e1.trans e2).trans e3) l _ hl, hj, k p H3 hp ((e1.trans e2).trans e3) (e3 _ _ (e2 _ _ h1))⟩
end My

set_option Elab.async false
set_option linter.all false
set_option maxRecDepth 100000
set_option maxHeartbeats 4000000
namespace My
open PySem PySem.Spec PyProof.Rows L2 Evl
open SX (S S_len S_cat S_beq S_beq_eq S_inj S_tl)
def RetR (G : Parts → Prop) (H : Hp) (Q : VK) : Prop := ∀ (p : Addr) (row : Parts) (H2 : Hp), Ex H H2 → RowT H2 p row → G row → Q (.ref p) H2
section
variable {P : Program} {w : World} {K : PySem.W.Frag} {mg : Str → Option Value} {base : Heap}
abbrev s_law_marked : Stmt := top 11
abbrev N_law_marked : List Str := ["line", "marks", "bias", "found", "k", "kept", "seen", "part", "word"]
theorem sc_law_marked : FnScope N_law_marked ["line", "marks", "bias"] (defScope s_law_marked) := ⟨rfl, rfl, rfl, by decide +kernel, rfl, by decide +kernel, by decide +kernel⟩
def spMk (K : PySem.W.Frag) : Sp := fun vs H Q _ => ∃ (line : List Nat) (mp : Addr) (ms : List Int) (bias : Int), vs = [.str (S line), .ref mp, .int bias] ∧ SqL K H mp (ms.map V.int) ∧ line.length ≤ ms.length ∧ line.length ≤ 400 ∧ RetR (fun row => goodF line row = true ∧ row.length ≤ 401) H Q
theorem ok_law_marked (T : TT mg) (F : At K mg "_law_marked" s_law_marked) : Dn P w K mg base 1 "_law_marked" s_law_marked ["line", "marks", "bias"] (spMk K) := by
  refine dn_ok F sc_law_marked (fun _ _ _ _ _ _ us hl => match us, hl with | [_, _, _], _ => rfl) (fun vs H Q E h => ?_) (fun f cdv A outer t H vs Q E hr h => ?_)
  · obtain ⟨line, mp, ms, bias, rfl, _⟩ := h; rfl
  · obtain ⟨line, mp, ms, bias, rfl, hS, hlm, hz, q⟩ := h
    refine ⟨_, (pss_cons (ps_set (i := 3) sc_law_marked.nd rfl (Or.inl rfl) (pe_lst pa_nil))
      (pss_cons (ps_for PassesOwn.never rfl (pi_range1 (by rfl) T.range (pa_cons (pe_callB call_len_str (by rfl) T.len boot_len (pa_cons (pv 0) pa_nil)) pa_nil)) (pg_name (i := 4) sc_law_marked.nd rfl (Or.inl rfl))
        (pss_one (ps_if (PW.pt (pw_and (pt_cmpR op_gt (pe_ix ix_list (pv 1) (pv 4) (fun _ _ => rfl)) pe_int (nomark _)) (pw_and1 (pt_cmpR op_lt (pe_ix ix_list (pv 1) (pv 4) (fun _ _ => rfl)) (pe_op op_add pe_int (pe_op op_mul pe_int (pv 2))) (nomark _))))) (pss_one (ps_expr (pe_bm PySem.F.plainAttrs_list PySem.F.slot_list_append PySem.F.type_list_append mt_append (pv 3) (pa_cons (pe_tup (pa_cons (pv 4) (pa_cons (pe_op op_add (pv 4) pe_int) pa_nil))) pa_nil)))) (pss_one (ps_if (PW.pt (pw_and (pt_cmpR op_gt (pe_ix ix_list (pv 1) (pv 4) (fun _ _ => rfl)) pe_int (nomark _)) (pw_and (pt_cmpR op_gt (pe_callB call_len_seq (by rfl) T.len boot_len (pa_cons (pv 3) pa_nil)) pe_int (nomark _)) (pw_and1 (pt_cmpR op_eq (pe_ix ix_tup (pe_ix ix_list (pv 3) (pe_un un_neg pe_int) (fun _ _ => rfl)) pe_int (fun _ _ => rfl)) (pv 4) (nomark _)))))) (pss_one (ps_asg (pe_tup (pa_cons (pe_ix ix_tup (pe_ix ix_list (pv 3) (pe_un un_neg pe_int) (fun _ _ => rfl)) pe_int (fun _ _ => rfl)) (pa_cons (pe_op op_add (pv 4) pe_int) pa_nil))) (pg_sub (pv 3) (pe_un un_neg pe_int) set_list))) pss_nil)))))
      (pss_cons (ps_set (i := 5) sc_law_marked.nd rfl (Or.inl rfl) (pe_lst pa_nil))
      (pss_cons (ps_set (i := 6) sc_law_marked.nd rfl (Or.inl rfl) pe_dnewK)
      (pss_cons (ps_for PassesOwn.never rfl (pi_list (pv 3)) (pg_name (i := 7) sc_law_marked.nd rfl (Or.inl rfl))
        (pss_cons (ps_set (i := 8) sc_law_marked.nd rfl (Or.inl rfl) (pe_slice sl_str (pv 0) (po_some (pe_ix ix_tup (pv 7) pe_int (fun _ _ => rfl))) (po_some (pe_ix ix_tup (pv 7) pe_int (fun _ _ => rfl)))))
          (pss_one (ps_if (pt_cmp (pc_dnotin (hu_of hr) (pv 8) (pv 6))) (pss_cons (ps_dput (hu_of hr) (pv 6) (pv 8) pe_bl rfl)
            (pss_one (ps_expr (pe_bm PySem.F.plainAttrs_list PySem.F.slot_list_append PySem.F.type_list_append mt_append (pv 5) (pa_cons (pv 7) pa_nil))))) pss_nil))))
      (pss_one (ps_ret (pv 5)))))))), ?_⟩
    refine q_asgL (el_lst ea_nil (by decide)) fun fp H1 nf e1 hf => ?_
    refine q_forR1 (ea_cons (ev_lenSS (ev_var rfl) (by omega)) ea_nil) ⟨by omega, by omega⟩ (fun i σ' H' => ∃ (fs : Parts) (ps : List Addr) (x : Option V), σ' = [some (.str (S line)), some (.ref mp), some (.int bias), some (.ref fp), x, none, none, none, none] ∧ Ex H H' ∧ RowX H' fp fs ps ∧ InOrd (line.length : Int) 0 fs ∧ endF 0 fs ≤ (i : Int) ∧ fs.length ≤ i)
      (fun H2 e2 => ⟨[], [], none, rfl, e1.trans e2, ⟨e2 _ _ hf, rfl, fun k hk => absurd hk (Nat.not_lt_zero k)⟩, trivial, Int.le_refl 0, Nat.le_refl 0⟩) ?_ ?_
    · rintro i σ' H' hi ⟨fs, ps, x, rfl, e, hR, ho, hend, hfl⟩
      have hi2 : i < line.length := by omega
      have hat : atI (ms.map V.int) (i : Int) = some (.int (ms.getD i 0)) := at_d (by omega)
      have gm : ∀ H1, Ex H' H1 → Ev (tOp (rIxL K) (tVar 1) (tVar 4)) [some (.str (S line)), some (.ref mp), some (.int bias), some (.ref fp), some (.int (i : Int)), none, none, none, none] H1 (.int (ms.getD i 0)) := fun H1 e1 => ev_op (ev_var rfl) (ev_var rfl) (rv_ixL (K := K) (ex_l (e.trans e1) hS) hat)
      have r := Ex.refl H'
      have hpz : (ps.map V.ref).length < 100000 := by rw [List.length_map, hR.2.1]; omega
      refine s_if (et_and (et_test (ev_op (gm H' r) ev_c rv_I0)) fun _ => et_test (ev_op (gm H' r) (ev_op ev_c (ev_op ev_c (ev_var rfl) (rv_I (Or.inl (by decide)))) rv_I0) rv_I0)) (fun _ H2 e2 => ?_) (fun _ H2 e2 => ?_)
      · refine s_appU (e2 _ _ hR.1) (ev_var rfl) (eu_tup (ea_cons (ev_var rfl) (ea_cons (ev_op (ev_var rfl) ev_c rv_I0) ea_nil)) (by show 2 ≤ 100000; decide)) hpz fun tp H3 _ e3 ht => ?_
        have hR3 := ((hR.ex e2).ex e3).app (pt := ((i : Int), (i : Int) + 1)) ht
        refine ⟨_, _, _, rfl, Ex.mut ((e.trans e2).trans e3) nf, hR3, ord_snoc.mpr ⟨ho, hend, by show (i : Int) < (i : Int) + 1; omega, by show (i : Int) + 1 ≤ _; omega⟩, ?_, by rw [List.length_append]; exact Nat.succ_le_succ hfl⟩
        rw [end_snoc]
        show (i : Int) + 1 ≤ ((i + 1 : Nat) : Int)
        omega
      · have stay : ∀ H3, Ex H2 H3 → ∃ (fs : Parts) (ps : List Addr) (x : Option V), [some (V.str (S line)), some (V.ref mp), some (V.int bias), some (V.ref fp), some (V.int (i : Int)), none, none, none, none] = [some (.str (S line)), some (.ref mp), some (.int bias), some (.ref fp), x, none, none, none, none] ∧ Ex H H3 ∧ RowX H3 fp fs ps ∧ InOrd (line.length : Int) 0 fs ∧ endF 0 fs ≤ ((i + 1 : Nat) : Int) ∧ fs.length ≤ i + 1 := fun H3 e3 => ⟨fs, ps, _, rfl, (e.trans e2).trans e3, (hR.ex e2).ex e3, ho, by omega, by omega⟩
        by_cases hne : fs = []
        · subst hne
          have hp0 : ps = [] := List.length_eq_zero_iff.mp hR.2.1
          subst hp0
          refine s_when (b := decide ((0 : Int) < ms.getD i 0) && (decide ((0 : Int) < 0) && false)) (et_and (et_test (ev_op (gm H2 e2) ev_c rv_I0)) fun _ => et_and (et_test (ev_op (ev_len (K := K) (ev_var rfl) (sq_of (e2 _ _ hR.1))) ev_c rv_I0)) fun hc => absurd (of_decide_eq_true hc) (by decide)) (fun hb H3 e3 => ?_) (fun _ H3 e3 => stay H3 e3)
          simp at hb
        · have hpos : 0 < fs.length := List.length_pos_iff.mpr hne
          have hR2 := hR.ex e2
          have hlast := hR2.2.2 (fs.length - 1) (by omega)
          have hat1 : atI (ps.map V.ref) (-1 : Int) = some (.ref (ps.getD (fs.length - 1) 0)) := by
            unfold atI
            have ei : ixN (ps.map V.ref).length (-1) = some (fs.length - 1) := by
              unfold ixN
              rw [List.length_map, hR.2.1, if_neg (by decide), if_pos (by omega)]
              congr 1
              omega
            rw [ei]
            show (ps.map V.ref)[fs.length - 1]? = _
            rw [List.getElem?_map, List.getD_eq_getElem?_getD, List.getElem?_eq_getElem (by rw [hR.2.1]; omega)]
            rfl
          have ei : ixN (ps.map V.ref).length (-1) = some (fs.length - 1) := by
            unfold ixN
            rw [List.length_map, hR.2.1, if_neg (by decide), if_pos (by omega)]
            congr 1
            omega
          have hend2 : endF 0 fs = (fs.getD (fs.length - 1) (0, 0)).2 := by
            have := end_take (row := fs) (i := fs.length - 1) (by omega) 0
            have e : fs.length - 1 + 1 = fs.length := by omega
            rw [e, List.take_length] at this
            exact this
          obtain ⟨gs, pt, hgs⟩ : ∃ gs pt, fs = gs ++ [pt] := ⟨fs.dropLast, fs.getLast hne, (List.dropLast_concat_getLast hne).symm⟩
          have hpt : fs.getD (fs.length - 1) (0, 0) = pt := by
            rw [hgs, getD_snoc, List.length_append]
            simp
          rw [hpt] at hlast hend2
          have gl : ∀ (H1 : Hp), Ex H2 H1 → Ev (tOp (rIxL K) (tVar 3) (tUn (rU fun i => .int (-i)) (tC (.int 1)))) [some (V.str (S line)), some (V.ref mp), some (V.int bias), some (V.ref fp), some (V.int (i : Int)), none, none, none, none] H1 (.ref (ps.getD (fs.length - 1) 0)) := fun H1 e1 => ev_op (ev_var rfl) (ev_un ev_c ru_neg) (rv_ixL (K := K) (sq_of (e1 _ _ hR2.1)) hat1)
          refine s_when (b := decide ((0 : Int) < ms.getD i 0) && (decide ((0 : Int) < ((ps.map V.ref).length : Int)) && decide (V.int pt.2 = V.int (i : Int)))) (et_and (et_test (ev_op (gm H2 e2) ev_c rv_I0)) fun _ => et_and (et_test (ev_op (ev_len (K := K) (ev_var rfl) (sq_of hR2.1)) ev_c rv_I0)) fun _ => et_test (ev_op (ev_op (gl H2 (Ex.refl H2)) ev_c (rv_ixT (K := K) (st_of hlast) (p1 pt))) (ev_var rfl) (rv_eq rfl))) (fun hb H3 e3 => ?_) (fun _ H3 e3 => stay H3 e3)
          have hk : pt.2 = (i : Int) := by
            simp only [Bool.and_eq_true, decide_eq_true_eq] at hb
            exact V.int.inj hb.2.2
          have hR3 := hR2.ex e3
          refine s_setLU (i := -1) hR3.1 (eu_tup (ea_cons (ev_op (gl H3 e3) ev_c (rv_ixT (K := K) (st_of (e3 _ _ hlast)) (p0 pt))) (ea_cons (ev_op (ev_var rfl) ev_c rv_I0) ea_nil)) (by show 2 ≤ 100000; decide)) (ev_var rfl) (ev_un ev_c ru_neg) ei fun tp H4 _ e4 ht => ?_
          have hR4 := (hR3.ex e4).last (pt := (pt.1, (i : Int) + 1)) hne ht
          refine ⟨_, _, _, rfl, Ex.mut (((e.trans e2).trans e3).trans e4) nf, hR4, ?_, ?_, ?_⟩
          · have hd : fs.dropLast = gs := by rw [hgs, List.dropLast_concat]
            rw [hd]
            rw [hgs] at ho
            obtain ⟨o1, o2, o3, o4⟩ := ord_snoc.mp ho
            exact ord_snoc.mpr ⟨o1, o2, by show pt.1 < (i : Int) + 1; omega, by show (i : Int) + 1 ≤ _; omega⟩
          · rw [end_snoc]
            show (i : Int) + 1 ≤ ((i + 1 : Nat) : Int)
            omega
          · rw [List.length_append, List.length_dropLast]
            show fs.length - 1 + 1 ≤ _
            omega
    rintro σ' H2 ⟨fs, ps, x0, rfl, e2, hR, ho, _, hfl⟩
    refine q_asgL (el_lst ea_nil (by decide)) fun kp H3 nk e3 hk => ?_
    refine q_dnew fun d H4 nd hd e4 => ?_
    have hfl4 : fs.length ≤ 400 := by omega
    have hR4 := (hR.ex e3).ex e4
    refine q_forLn (K := K) (ev_var rfl) (sq_of hR4.1) (fun i σ' H' => ∃ (ks : Parts) (qs : List Addr) (le : Int) (ws : List (List Nat)) (x y : Option V), σ' = [some (.str (S line)), some (.ref mp), some (.int bias), some (.ref fp), x0, some (.ref kp), some (.ref d), x, y] ∧ Ex H2 H' ∧ RowX H' kp ks qs ∧ DW H' d ws ∧ stF line ks = some (le, ws) ∧ le ≤ endF 0 (fs.take i) ∧ ks.length ≤ i ∧ ws.length ≤ i)
      (fun H5 e5 => ⟨[], [], 0, [], none, none, rfl, (e3.trans e4).trans e5, ⟨e5 _ _ (e4 _ _ hk), rfl, fun k hk => absurd hk (Nat.not_lt_zero k)⟩, hd.ex e5, rfl, Int.le_refl 0, Nat.le_refl 0, Nat.le_refl 0⟩) (fun i σ' H' _ ⟨_, _, _, _, _, _, _, e, _⟩ => sq_of (e _ _ hR.1)) ?_ ?_
    · rintro i y σ' H' hx ⟨ks, qs, le, ws, x1, y1, rfl, e, hK, hdw, hst, hle, hkl, hwl⟩
      obtain ⟨rfl, hi0⟩ := ref_at hx
      have hi : i < fs.length := by have := hR.2.1; omega
      have hpi := e _ _ (hR.2.2 i hi)
      obtain ⟨o1, o2, o3⟩ := ord_at ho hi
      have hnx := end_take hi 0
      revert hpi o1 o2 o3 hnx
      generalize fs.getD i (0, 0) = pt
      intro hpi o1 o2 o3 hnx
      refine q_asg (ev_slS (ev_var rfl) (eo_some (ev_op (ev_var rfl) ev_c (rv_ixT (K := K) (st_of hpi) (p0 pt)))) (eo_some (ev_op (ev_var rfl) ev_c (rv_ixT (K := K) (st_of hpi) (p1 pt)))) (by omega)) fun H5 e5 => ?_
      refine s_when (et_B (ev_dni (w := seg line pt) (ev_var rfl) (ev_var rfl) (hdw.ex e5))) (fun hb H6 e6 => ?_) (fun hb H6 e6 => ?_)
      · have hnw : seg line pt ∉ ws := by simpa using hb
        have e56 := e5.trans e6
        refine q_dput (w := seg line pt) ev_c (ev_var rfl) (ev_var rfl) (hdw.ex e56) (by omega) fun H7 e7 kvs hdw2 => ?_
        have hdd : ∃ u, H7 d = some (.dK u) := by
          obtain ⟨u, hu, _⟩ := (hdw.ex e56).ex e7
          exact ⟨u, hu⟩
        obtain ⟨u, hu⟩ := hdd
        have hK7 := ((hK.ex e56).ex e7).upd (o := .dK kvs) hu (by intro xs z; cases z) (by intro xs z; cases z)
        have hne : ps.getD i 0 ≠ d := ne_of (e7 _ _ (e56 _ _ hpi)) hu (by intro z; cases z)
        refine s_app hK7.1 (ev_var rfl) (ev_var rfl) (by rw [List.length_map, hK.2.1]; omega) fun H8 e8 => ?_
        have hpi8 : H8 (ps.getD i 0) = some (.tup (pV pt)) := e8 _ _ (by rw [upd_ne hne]; exact e7 _ _ (e56 _ _ hpi))
        have nd2 : H2 d = none := fresh_back e3 nd
        have hkd : d ≠ kp := ne_of hu ((hK.ex e56).ex e7).1 (by intro z; cases z)
        refine ⟨_, _, pt.2, _, _, _, rfl, Ex.mut ((Ex.mut ((e.trans e56).trans e7) nd2).trans e8) nk, (hK7.ex e8).app hpi8, (hdw2.ex e8).upd hkd, stF_snoc hst (Int.le_trans hle o1) o2 o3 hnw, by rw [hnx]; exact Int.le_refl _, by rw [List.length_append]; exact Nat.succ_le_succ hkl, Nat.succ_le_succ hwl⟩
      · refine ⟨ks, qs, le, ws, _, _, rfl, (e.trans e5).trans e6, (hK.ex e5).ex e6, (hdw.ex e5).ex e6, hst, ?_, by omega, by omega⟩
        rw [hnx]
        omega
    · rintro σ' H5 ⟨ks, qs, le, ws, x1, y1, rfl, e, hK, hdw, hst, hle, hkl, hwl⟩
      have hpl : (ps.map V.ref).length = fs.length := by rw [List.length_map, hR.2.1]
      rw [hpl] at hkl
      exact s_ret (ev_var rfl) fun H6 e6 => q kp ks H6 ((e2.trans e).trans e6) (hK.ex e6).row ⟨good_of hst, by omega⟩
abbrev s_law_shortest : Stmt := top 12
abbrev N_law_shortest : List Str := ["line", "at", "most", "kept", "seen", "reached", "turn", "far", "wide"]
theorem sc_law_shortest : FnScope N_law_shortest ["line", "at", "most"] (defScope s_law_shortest) := ⟨rfl, rfl, rfl, by decide +kernel, rfl, by decide +kernel, by decide +kernel⟩
def spSh : Sp := fun vs H Q _ => ∃ (line : List Nat) (at_ most : Int), vs = [.str (S line), .int at_, .int most] ∧ 0 ≤ at_ ∧ 0 ≤ most ∧ most ≤ 1000 ∧ line.length ≤ 400 ∧ RetR (fun row => goodF line row = true ∧ row.length ≤ 401) H Q
theorem ok_law_shortest (T : TT mg) (F : At K mg "_law_shortest" s_law_shortest) : Dn P w K mg base 1 "_law_shortest" s_law_shortest ["line", "at", "most"] spSh := by
  refine dn_ok F sc_law_shortest (fun _ _ _ _ _ _ us hl => match us, hl with | [_, _, _], _ => rfl) (fun vs H Q E h => ?_) (fun f cdv A outer t H vs Q E hr h => ?_)
  · obtain ⟨line, at_, most, rfl, _⟩ := h; rfl
  · obtain ⟨line, at_, most, rfl, ha, hm0, hm, hz, q⟩ := h
    refine ⟨_, (pss_cons (ps_set (i := 3) sc_law_shortest.nd rfl (Or.inl rfl) (pe_lst pa_nil))
      (pss_cons (ps_set (i := 4) sc_law_shortest.nd rfl (Or.inl rfl) pe_dnewK)
      (pss_cons (ps_set (i := 5) sc_law_shortest.nd rfl (Or.inl rfl) (pv 1))
      (pss_cons (ps_for PassesOwn.never rfl (pi_range1 (by rfl) T.range (pa_cons pe_int pa_nil)) (pg_name (i := 6) sc_law_shortest.nd rfl (Or.inl rfl))
        (pss_cons (ps_if (pt_cmpR op_ge (pv 5) (pe_callB call_len_str (by rfl) T.len boot_len (pa_cons (pv 0) pa_nil)) (nomark _)) (pss_one ps_break) pss_nil)
          (pss_cons (ps_set (i := 7) sc_law_shortest.nd rfl (Or.inl rfl) pe_int)
          (pss_cut (ps_for PassesOwn.never rfl (pi_range2 (by rfl) T.range (pa_cons pe_int (pa_cons (pe_op op_add (pe_callB (call_min2 rfl) (by rfl) T.min (by decide +kernel) (pa_cons (pv 2) (pa_cons (pe_op op_sub (pe_callB call_len_str (by rfl) T.len boot_len (pa_cons (pv 0) pa_nil)) (pv 5)) pa_nil))) pe_int) pa_nil))) (pg_name (i := 8) sc_law_shortest.nd rfl (Or.inl rfl))
            (pss_one (ps_if (pt_cmp (pc_dnotin (hu_of hr) (pe_slice sl_str (pv 0) (po_some (pv 5)) (po_some (pe_op op_add (pv 5) (pv 8)))) (pv 4))) (pss_cons (ps_set (i := 7) sc_law_shortest.nd rfl (Or.inl rfl) (pv 8))
                (pss_one ps_break)) pss_nil)))
          (pss_cons (ps_if (pt_cmpR op_gt (pv 7) pe_int (nomark _)) (pss_cons (ps_dput (hu_of hr) (pv 4) (pe_slice sl_str (pv 0) (po_some (pv 5)) (po_some (pe_op op_add (pv 5) (pv 7)))) pe_bl rfl)
            (pss_one (ps_expr (pe_bm PySem.F.plainAttrs_list PySem.F.slot_list_append PySem.F.type_list_append mt_append (pv 3) (pa_cons (pe_tup (pa_cons (pv 5) (pa_cons (pe_op op_add (pv 5) (pv 7)) pa_nil))) pa_nil))))) pss_nil)
          (pss_one (ps_set (i := 5) sc_law_shortest.nd rfl (Or.inl rfl) (pe_op op_add (pv 5) (pe_callB (call_max2 rfl) (by rfl) T.max (by decide +kernel) (pa_cons pe_int (pa_cons (pv 7) pa_nil)))))))))))
      (pss_one (ps_ret (pv 3))))))), ?_⟩
    refine q_asgL (el_lst ea_nil (by decide)) fun kp H1 nk e1 hk => ?_
    refine q_dnew fun d H2 nd hd e2 => ?_
    refine q_asg (ev_var rfl) fun H3 e3 => ?_
    refine q_forR1 (ea_cons ev_c ea_nil) ⟨by decide, by decide⟩ (fun i σ' H' => ∃ (ks : Parts) (qs : List Addr) (le re : Int) (ws : List (List Nat)) (x y z : Option V), σ' = [some (.str (S line)), some (.int at_), some (.int most), some (.ref kp), some (.ref d), some (.int re), x, y, z] ∧ Ex H H' ∧ RowX H' kp ks qs ∧ DW H' d ws ∧ stF line ks = some (le, ws) ∧ le ≤ re ∧ 0 ≤ re ∧ ks.length ≤ i ∧ ws.length ≤ i)
      (fun H4 e4 => ⟨[], [], 0, at_, [], none, none, none, rfl, ((e1.trans e2).trans e3).trans e4, ⟨e4 _ _ (e3 _ _ (e2 _ _ hk)), rfl, fun k hk => absurd hk (Nat.not_lt_zero k)⟩, (hd.ex e3).ex e4, rfl, ha, ha, Nat.le_refl 0, Nat.le_refl 0⟩) ?_ ?_
    · rintro i σ' H' hi ⟨ks, qs, le, re, ws, x, y, z, rfl, e, hK, hdw, hst, hle, hre, hkl, hwl⟩
      refine q_when (et_test (ev_op (ev_var rfl) (ev_lenSS (ev_var rfl) (by omega)) rv_I0)) (fun hb H4 e4 => ?_) (fun hb H4 e4 => ?_)
      · exact s_ret (ev_var rfl) fun H5 e5 => q kp ks H5 ((e.trans e4).trans e5) ((hK.ex e4).ex e5).row ⟨good_of hst, by omega⟩
      have hlt : re < (line.length : Int) := by
        have := of_decide_eq_false hb
        omega
      refine q_asg ev_c fun H5 e5 => ?_
      have e45 := e4.trans e5
      obtain ⟨mn, hmn, mn1⟩ : ∃ mn : Int, (if (line.length : Int) - re < most then (line.length : Int) - re else most) = mn ∧ 0 ≤ mn ∧ mn ≤ (line.length : Int) - re ∧ mn ≤ 1000 := ⟨_, rfl, by split <;> omega, by split <;> omega, by split <;> omega⟩
      refine q_cut (M := fun σ2 H6 => ∃ (far : Int) (z : Option V), σ2 = [some (.str (S line)), some (.int at_), some (.int most), some (.ref kp), some (.ref d), some (.int re), some (.int (i : Int)), some (.int far), z] ∧ Ex H5 H6 ∧ (far = 0 ∨ (1 ≤ far ∧ re + far ≤ (line.length : Int) ∧ seg line (re, re + far) ∉ ws))) ?_ ?_
      · refine s_forR2 (lo := 1) (n := mn + 1) (ea_cons ev_c (ea_cons (ev_op (by
          have h2 := ev_min2 (σ := [some (V.str (S line)), some (V.int at_), some (V.int most), some (V.ref kp), some (V.ref d), some (V.int re), some (V.int (i : Int)), some (V.int 0), z]) (H := H5) (ta := tVar 2) (tb := tOp (rI0 fun i j => .int (i - j)) (tCB (fun xs H Q => ∃ z : Str, xs = [.str z] ∧ z.length ≤ sizeLine ∧ Q (.int z.length) H) (tCons (tVar 0) tNil)) (tVar 5)) (ev_var rfl) (ev_op (ev_lenSS (ev_var rfl) (by omega)) (ev_var rfl) rv_I0)
          rw [hmn] at h2
          exact h2) ev_c rv_I0) ea_nil)) ⟨by decide, by decide, by omega, by omega⟩ (fun j σ2 H6 => ∃ z : Option V, σ2 = [some (.str (S line)), some (.int at_), some (.int most), some (.ref kp), some (.ref d), some (.int re), some (.int (i : Int)), some (.int 0), z] ∧ Ex H5 H6) (fun H6 e6 => ⟨z, rfl, e6⟩) ?_ ?_
        · rintro j σ2 H6 hj ⟨z, rfl, e6⟩
          refine s_when (et_B (ev_dni (w := seg line (re, re + (1 + (j : Int)))) (ev_slS (ev_var rfl) (eo_some (ev_var rfl)) (eo_some (ev_op (ev_var rfl) (ev_var rfl) rv_I0)) (by omega)) (ev_var rfl) ((hdw.ex e45).ex e6))) (fun hb2 H7 e7 => ?_) (fun hb2 H7 e7 => ⟨_, rfl, e6.trans e7⟩)
          have hnw : seg line (re, re + (1 + (j : Int))) ∉ ws := by simpa using hb2
          exact q_asg (ev_var rfl) fun H8 e8 => ⟨_, _, rfl, (e6.trans e7).trans e8, Or.inr ⟨by omega, by omega, hnw⟩⟩
        · rintro σ2 H6 ⟨z, rfl, e6⟩
          exact ⟨0, z, rfl, e6, Or.inl rfl⟩
      rintro σ2 H6 ⟨far, z2, rfl, e6, hfar⟩
      have e46 := e45.trans e6
      refine q_when (et_test (ev_op (ev_var rfl) ev_c rv_I0)) (fun hb2 H7 e7 => ?_) (fun hb2 H7 e7 => ?_)
      · have hpos : 0 < far := of_decide_eq_true hb2
        obtain ⟨f1, f2, f3⟩ : 1 ≤ far ∧ re + far ≤ (line.length : Int) ∧ seg line (re, re + far) ∉ ws := by
          rcases hfar with h | h
          · omega
          · exact h
        have e47 := e46.trans e7
        refine q_dput (w := seg line (re, re + far)) ev_c (ev_var rfl) (ev_slS (ev_var rfl) (eo_some (ev_var rfl)) (eo_some (ev_op (ev_var rfl) (ev_var rfl) rv_I0)) (by omega)) (hdw.ex e47) (by omega) fun H8 e8 kvs hdw2 => ?_
        obtain ⟨u, hu, _⟩ := (hdw.ex e47).ex e8
        have hK8 := ((hK.ex e47).ex e8).upd (o := .dK kvs) hu (by intro xs z; cases z) (by intro xs z; cases z)
        have ndH : H d = none := fresh_back e1 nd
        refine s_appU hK8.1 (ev_var rfl) (eu_tup (ea_cons (ev_var rfl) (ea_cons (ev_op (ev_var rfl) (ev_var rfl) rv_I0) ea_nil)) (by show 2 ≤ 100000; decide)) (by rw [List.length_map, hK.2.1]; omega) fun tp H9 _ e9 ht => ?_
        have hkd : d ≠ kp := ne_of hu ((hK.ex e47).ex e8).1 (by intro z; cases z)
        have hR := (hK8.ex e9).app (pt := (re, re + far)) ht
        have hW := (hdw2.ex e9).upd (o := .lst (qs.map V.ref ++ [.ref tp])) hkd
        have hE : Ex H (upd H9 kp (.lst (qs.map V.ref ++ [.ref tp]))) := Ex.mut ((Ex.mut ((e.trans e47).trans e8) ndH).trans e9) nk
        refine s_asg (ev_op (ev_var rfl) (ev_max2 ev_c (ev_var rfl)) rv_I0) fun H10 e10 => ?_
        refine ⟨_, _, re + far, _, _, _, _, _, rfl, hE.trans e10, hR.ex e10, hW.ex e10, stF_snoc hst hle (by show re < re + far; omega) f2 f3, ?_, ?_, by rw [List.length_append]; exact Nat.succ_le_succ hkl, Nat.succ_le_succ hwl⟩
        · split <;> omega
        · split <;> omega
      · refine s_asg (ev_op (ev_var rfl) (ev_max2 ev_c (ev_var rfl)) rv_I0) fun H8 e8 => ?_
        refine ⟨ks, qs, le, _, ws, _, _, _, rfl, ((e.trans e46).trans e7).trans e8, ((hK.ex e46).ex e7).ex e8, ((hdw.ex e46).ex e7).ex e8, hst, ?_, ?_, by omega, by omega⟩
        · have := of_decide_eq_false hb2
          split <;> omega
        · have := of_decide_eq_false hb2
          split <;> omega
    · rintro σ' H' ⟨ks, qs, le, re, ws, x, y, z, rfl, e, hK, hdw, hst, hle, hre, hkl, hwl⟩
      have h4 : (Int.toNat 401) = 401 := rfl
      rw [h4] at hkl
      exact s_ret (ev_var rfl) fun H5 e5 => q kp ks H5 (e.trans e5) (hK.ex e5).row ⟨good_of hst, hkl⟩
end
end My

set_option Elab.async false
set_option linter.all false
set_option maxRecDepth 100000
set_option maxHeartbeats 4000000
namespace My
open PySem PySem.Spec PyProof.Rows L2 Evl
open SX (S S_len S_cat S_beq S_beq_eq S_inj S_tl)
/-! ### places and parts, side by side -/
def Pl (i : List V → HO) (H : Hp) : List Addr → Parts → Prop
  | [], [] => True
  | a :: as, p :: r => H a = some (i (pV p)) ∧ Pl i H as r
  | _, _ => False
theorem Pl.ex {i : List V → HO} {H H' : Hp} (e : Ex H H') : ∀ {as : List Addr} {r : Parts}, Pl i H as r → Pl i H' as r
  | [], [], _ => trivial
  | _ :: _, _ :: _, h => ⟨e _ _ h.1, Pl.ex e h.2⟩
  | [], _ :: _, h => h.elim
  | _ :: _, [], h => h.elim
theorem Pl.len {i : List V → HO} {H : Hp} : ∀ {as : List Addr} {r : Parts}, Pl i H as r → as.length = r.length
  | [], [], _ => rfl
  | _ :: _, _ :: _, h => congrArg (· + 1) (Pl.len h.2)
  | [], _ :: _, h => h.elim
  | _ :: _, [], h => h.elim
theorem Pl.app {i : List V → HO} {H : Hp} : ∀ {as bs : List Addr} {r s : Parts}, Pl i H as r → Pl i H bs s → Pl i H (as ++ bs) (r ++ s)
  | [], _, [], _, _, h => h
  | _ :: _, _, _ :: _, _, h, g => ⟨h.1, Pl.app h.2 g⟩
  | [], _, _ :: _, _, h, _ => h.elim
  | _ :: _, _, [], _, h, _ => h.elim
theorem Pl.take {i : List V → HO} {H : Hp} : ∀ {as : List Addr} {r : Parts} (n : Nat), Pl i H as r → Pl i H (as.take n) (r.take n)
  | [], [], n, _ => by rw [List.take_nil, List.take_nil]; trivial
  | _ :: _, _ :: _, 0, _ => trivial
  | _ :: _, _ :: _, n + 1, h => ⟨h.1, Pl.take n h.2⟩
  | [], _ :: _, _, h => h.elim
  | _ :: _, [], _, h => h.elim
theorem Pl.drop {i : List V → HO} {H : Hp} : ∀ {as : List Addr} {r : Parts} (n : Nat), Pl i H as r → Pl i H (as.drop n) (r.drop n)
  | [], [], n, _ => by rw [List.drop_nil, List.drop_nil]; trivial
  | _ :: _, _ :: _, 0, h => h
  | _ :: _, _ :: _, n + 1, h => Pl.drop n h.2
  | [], _ :: _, _, h => h.elim
  | _ :: _, [], _, h => h.elim
theorem Pl.of {i : List V → HO} {H : Hp} : ∀ {ps : List Addr} {row : Parts}, ps.length = row.length → (∀ k, k < row.length → H (ps.getD k 0) = some (i (pV (row.getD k (0, 0))))) → Pl i H ps row
  | [], [], _, _ => trivial
  | a :: as, p :: r, hl, h => ⟨h 0 (Nat.succ_pos _), Pl.of (Nat.succ.inj hl) fun k hk => h (k + 1) (Nat.succ_lt_succ hk)⟩
  | [], _ :: _, hl, _ => by cases hl
  | _ :: _, [], hl, _ => by cases hl
theorem Pl.get {i : List V → HO} {H : Hp} : ∀ {ps : List Addr} {row : Parts}, Pl i H ps row → ∀ k, k < row.length → H (ps.getD k 0) = some (i (pV (row.getD k (0, 0))))
  | [], [], _, k, hk => absurd hk (Nat.not_lt_zero k)
  | _ :: _, _ :: _, h, 0, _ => h.1
  | _ :: _, _ :: _, h, k + 1, hk => Pl.get h.2 k (Nat.lt_of_succ_lt_succ hk)
  | [], _ :: _, h, _, _ => h.elim
  | _ :: _, [], h, _, _ => h.elim
theorem Row.of {o i : List V → HO} {H : Hp} {p : Addr} {ps : List Addr} {row : Parts} (h : H p = some (o (ps.map V.ref))) (g : Pl i H ps row) : Row o i H p row := ⟨ps, h, g.len, g.get⟩
theorem Row.pl {o i : List V → HO} {H : Hp} {p : Addr} {row : Parts} (h : Row o i H p row) : ∃ ps, H p = some (o (ps.map V.ref)) ∧ Pl i H ps row := by
  obtain ⟨ps, a, b, c⟩ := h
  exact ⟨ps, a, Pl.of b c⟩
theorem Pl.cut {i : List V → HO} {H : Hp} {as : List Addr} {r : Parts} (h : Pl i H as r) (lo hi : Option Int) : Pl i H (cutL as lo hi) (cutL r lo hi) := by
  unfold cutL
  rw [h.len]
  exact (h.drop _).take _
/-! ### what evaluates to a new row -/
def ER (te : TE) (σ : L2.St) (H : Hp) (G : Parts → Prop) : Prop := ∀ H1, Ex H H1 → ∀ Q : VK, (∀ p H2 row, H1 p = none → Ex H1 H2 → RowT H2 p row → G row → Q (.ref p) H2) → te σ H1 Q
section
variable {K : PySem.W.Frag} {σ : L2.St} {H : Hp} {ta tb tc te : TE} {x y v : V} {D : Ends} {tu tz : TS} {tl th : TO}
theorem er_slice {p : Addr} {row : Parts} {lo hi : Option Int} (h : Ev te σ H (.ref p)) (h1 : EvO tl σ H lo) (h2 : EvO th σ H hi) (hR : RowT H p row) : ER (tSl (rSlL K) te tl th) σ H (fun r => r = cutL row lo hi) := fun H0 e0 Q q => by
  obtain ⟨ps, hp, hg⟩ := hR.pl
  have := el_sl (K := K) h h1 h2 (sq_of hp)
  rw [cutV_L, cutL_map] at this
  refine this H0 e0 Q fun a H2 ha e2 h2' => q a H2 (cutL row lo hi) ha e2 ?_ rfl
  exact Row.of h2' ((hg.ex (e0.trans e2)).cut lo hi)
theorem er_one {i j : Int} (ha : Ev ta σ H (.int i)) (hb : ∀ H1, Ex H H1 → Ev tb σ H1 (.int j)) : ER (tLst (tCons (tTup (tCons ta (tCons tb tNil))) tNil)) σ H (fun r => r = [(i, j)]) := fun H0 e0 Q q => by
  show tTup (tCons ta (tCons tb tNil)) σ H0 (fun x H1 => [x].length ≤ sizeLine ∧ ∀ p, H1 p = none → Q (.ref p) (upd H1 p (.lst [x])))
  refine eu_tup (σ := σ) (H := H) (vs := [.int i, .int j]) (ea_cons ha (ea_cons (hb H (Ex.refl H)) ea_nil)) (by show 2 ≤ 100000; decide) H0 e0 _ fun t H1 nt e1 h1 => ?_
  refine ⟨by show 1 ≤ sizeLine; decide, fun l hl => q l _ [(i, j)] (fresh_back e1 hl) (e1.trans (Ex.new hl)) ?_ rfl⟩
  exact Row.of (ps := [t]) upd_same ⟨(Ex.new hl) _ _ h1, trivial⟩
theorem er_two {a b : Addr} {p1 p2 : Int × Int} (ha : Ev ta σ H (.ref a)) (hb : Ev tb σ H (.ref b)) (h1 : H a = some (.tup (pV p1))) (h2 : H b = some (.tup (pV p2))) : ER (tLst (tCons ta (tCons tb tNil))) σ H (fun r => r = [p1, p2]) := fun H0 e0 Q q =>
  el_lst (ea_cons ha (ea_cons hb ea_nil)) (by show 2 ≤ 100000; decide) H0 e0 Q fun l H2 nl e2 hl => q l H2 [p1, p2] nl e2 (Row.of (ps := [a, b]) hl ⟨(e0.trans e2) _ _ h1, (e0.trans e2) _ _ h2, trivial⟩) rfl
theorem er_cat {G1 G2 : Parts → Prop} {n : Nat} (ha : ER ta σ H G1) (hb : ∀ H1, Ex H H1 → ER tb σ H1 G2) (hz : ∀ r s, G1 r → G2 s → r.length + s.length ≤ 100000) : ER (tOp rCat ta tb) σ H (fun r => ∃ a b, G1 a ∧ G2 b ∧ r = a ++ b) := fun H0 e0 Q q =>
  ha H0 e0 _ fun p H1 r hp e1 h1 g1 => hb H1 (e0.trans e1) H1 (Ex.refl H1) _ fun p2 H2 s hp2 e2 h2 g2 => by
    obtain ⟨as, h1p, l1⟩ := (h1.ex e2).pl
    obtain ⟨bs, h2p, l2⟩ := h2.pl
    refine ⟨p, p2, _, _, rfl, rfl, h1p, h2p, by rw [List.length_map, List.length_map, l1.len, l2.len]; exact sz_of (hz r s g1 g2), fun l hl => q l _ (r ++ s) (fresh_back (e1.trans e2) hl) ((e1.trans e2).trans (Ex.new hl)) ?_ ⟨r, s, g1, g2, rfl⟩⟩
    refine Row.of (ps := as ++ bs) (by rw [List.map_append]; exact upd_same) (Pl.ex (Ex.new hl) (l1.app l2))
/-- a row that stands, as the left one -/
theorem er_catV {G2 : Parts → Prop} {p : Addr} {row : Parts} (ha : Ev ta σ H (.ref p)) (hR : RowT H p row) (hb : ∀ H1, Ex H H1 → ER tb σ H1 G2) (hz : ∀ s, G2 s → row.length + s.length ≤ 100000) : ER (tOp rCat ta tb) σ H (fun r => ∃ b, G2 b ∧ r = row ++ b) := fun H0 e0 Q q =>
  ha H0 e0 _ fun H1 e1 => hb H1 (e0.trans e1) H1 (Ex.refl H1) _ fun p2 H2 s hp2 e2 h2 g2 => by
    obtain ⟨as, h1p, l1⟩ := (hR.ex ((e0.trans e1).trans e2)).pl
    obtain ⟨bs, h2p, l2⟩ := h2.pl
    refine ⟨p, p2, _, _, rfl, rfl, h1p, h2p, by rw [List.length_map, List.length_map, l1.len, l2.len]; exact sz_of (hz s g2), fun l hl => q l _ (row ++ s) (fresh_back (e1.trans e2) hl) ((e1.trans e2).trans (Ex.new hl)) ?_ ⟨s, g2, rfl⟩⟩
    refine Row.of (ps := as ++ bs) (by rw [List.map_append]; exact upd_same) (Pl.ex (Ex.new hl) (l1.app l2))
/-- both stand -/
theorem er_catVV {p p2 : Addr} {row row2 : Parts} (ha : Ev ta σ H (.ref p)) (hR : RowT H p row) (hb : Ev tb σ H (.ref p2)) (hR2 : RowT H p2 row2) (hz : row.length + row2.length ≤ 100000) : ER (tOp rCat ta tb) σ H (fun r => r = row ++ row2) := fun H0 e0 Q q =>
  ha H0 e0 _ fun H1 e1 => hb H1 (e0.trans e1) _ fun H2 e2 => by
    obtain ⟨as, h1p, l1⟩ := (hR.ex ((e0.trans e1).trans e2)).pl
    obtain ⟨bs, h2p, l2⟩ := (hR2.ex ((e0.trans e1).trans e2)).pl
    refine ⟨p, p2, _, _, rfl, rfl, h1p, h2p, by rw [List.length_map, List.length_map, l1.len, l2.len]; exact sz_of hz, fun l hl => q l _ (row ++ row2) (fresh_back (e1.trans e2) hl) ((e1.trans e2).trans (Ex.new hl)) ?_ rfl⟩
    refine Row.of (ps := as ++ bs) (by rw [List.map_append]; exact upd_same) (Pl.ex (Ex.new hl) (l1.app l2))
theorem er_catR {G1 : Parts → Prop} {p2 : Addr} {row2 : Parts} (ha : ER ta σ H G1) (hb : Ev tb σ H (.ref p2)) (hR2 : RowT H p2 row2) (hz : ∀ r, G1 r → r.length + row2.length ≤ 100000) : ER (tOp rCat ta tb) σ H (fun r => ∃ a, G1 a ∧ r = a ++ row2) := fun H0 e0 Q q =>
  ha H0 e0 _ fun p H1 r hp e1 h1 g1 => hb H1 (e0.trans e1) _ fun H2 e2 => by
    obtain ⟨as, h1p, l1⟩ := (h1.ex e2).pl
    obtain ⟨bs, h2p, l2⟩ := (hR2.ex ((e0.trans e1).trans e2)).pl
    refine ⟨p, p2, _, _, rfl, rfl, h1p, h2p, by rw [List.length_map, List.length_map, l1.len, l2.len]; exact sz_of (hz r g1), fun l hl => q l _ (r ++ row2) (fresh_back (e1.trans e2) hl) ((e1.trans e2).trans (Ex.new hl)) ?_ ⟨r, g1, rfl⟩⟩
    refine Row.of (ps := as ++ bs) (by rw [List.map_append]; exact upd_same) (Pl.ex (Ex.new hl) (l1.app l2))
theorem ER.mono {G G' : Parts → Prop} (h : ER te σ H G) (k : ∀ r, G r → G' r) : ER te σ H G' := fun H1 e1 Q q => h H1 e1 Q fun p H2 row hp e2 hR g => q p H2 row hp e2 hR (k row g)
theorem s_retR {G : Parts → Prop} (h : ER te σ H G) (k : ∀ p H1 row, H p = none → Ex H H1 → RowT H1 p row → G row → D.rt (.ref p) H1) : tRet te D σ H := h H (Ex.refl H) _ fun p H1 row hp e hR g => k p H1 row hp e hR g
theorem q_asgR {G : Parts → Prop} {i : Nat} (h : ER te σ H G) (k : ∀ p H1 row, H p = none → Ex H H1 → RowT H1 p row → G row → tz D (σ.set i (some (.ref p))) H1) : tSeq (tAsg te (gName i)) tz D σ H := h H (Ex.refl H) _ fun p H1 row hp e hR g => k p H1 row hp e hR g
/-- a part of a row -/
theorem ev_part {p : Addr} {row : Parts} {k : Nat} {i : Int} (hR : RowT H p row) (hi : ixN row.length i = some k) (ha : Ev ta σ H (.ref p)) (hb : Ev tb σ H (.int i)) : ∃ q, H q = some (.tup (pV (row.getD k (0, 0)))) ∧ Ev (tOp (rIxL K) ta tb) σ H (.ref q) := by
  obtain ⟨ps, hp, hl, hg⟩ := hR
  have hk : k < row.length := (ixN_seq hi).2.1
  refine ⟨ps.getD k 0, hg k hk, ev_op ha hb (rv_ixL (K := K) (sq_of hp) ?_)⟩
  unfold atI
  rw [List.length_map, hl, hi]
  show (ps.map V.ref)[k]? = _
  rw [List.getElem?_map, List.getD_eq_getElem?_getD, List.getElem?_eq_getElem (by omega)]
  rfl
theorem ev_start {p : Addr} {row : Parts} {k : Nat} {i : Int} (hR : RowT H p row) (hi : ixN row.length i = some k) (ha : Ev ta σ H (.ref p)) (hb : Ev tb σ H (.int i)) : Ev (tOp (rIxT K) (tOp (rIxL K) ta tb) (tC (.int 0))) σ H (.int (row.getD k (0, 0)).1) := by
  obtain ⟨q, hq, h⟩ := ev_part (K := K) hR hi ha hb
  exact ev_op h ev_c (rv_ixT (K := K) (st_of hq) (p0 _))
theorem ev_stop {p : Addr} {row : Parts} {k : Nat} {i : Int} (hR : RowT H p row) (hi : ixN row.length i = some k) (ha : Ev ta σ H (.ref p)) (hb : Ev tb σ H (.int i)) : Ev (tOp (rIxT K) (tOp (rIxL K) ta tb) (tC (.int 1))) σ H (.int (row.getD k (0, 0)).2) := by
  obtain ⟨q, hq, h⟩ := ev_part (K := K) hR hi ha hb
  exact ev_op h ev_c (rv_ixT (K := K) (st_of hq) (p1 _))
theorem ev_lenR {p : Addr} {row : Parts} (hR : RowT H p row) (ha : Ev ta σ H (.ref p)) : Ev (tCB (rLenS K) (tCons ta tNil)) σ H (.int (row.length : Int)) := by
  obtain ⟨ps, hp, hl, _⟩ := hR
  have := ev_len (K := K) ha (sq_of hp)
  rw [List.length_map, hl] at this
  exact this
theorem er_parts {p : Addr} {row : Parts} {k1 k2 : Nat} {i1 i2 : Int} (hR : RowT H p row) (h1 : ixN row.length i1 = some k1) (h2 : ixN row.length i2 = some k2) (ha : Ev ta σ H (.ref p)) (hb : Ev tb σ H (.int i1)) (hc : Ev tc σ H (.int i2)) :
    ER (tLst (tCons (tOp (rIxL K) ta tb) (tCons (tOp (rIxL K) ta tc) tNil))) σ H (fun r => r = [row.getD k1 (0, 0), row.getD k2 (0, 0)]) := by
  obtain ⟨q1, hq1, hv1⟩ := ev_part (K := K) hR h1 ha hb
  obtain ⟨q2, hq2, hv2⟩ := ev_part (K := K) hR h2 ha hc
  exact er_two hv1 hv2 hq1 hq2
theorem ixN_last {n : Nat} (h : 0 < n) : ixN n (-1) = some (n - 1) := by
  unfold ixN
  rw [if_neg (by decide), if_pos (by omega)]
  congr 1
  omega
end
/-! ### a list of rows -/
def RowsG (H : Hp) (rp : Addr) (n : Nat) (G : Parts → Prop) : Prop := ∃ qs : List Addr, H rp = some (.lst (qs.map V.ref)) ∧ qs.length = n ∧ ∀ q ∈ qs, q ≠ rp ∧ ∃ row, RowT H q row ∧ G row
theorem RowT.upd {H : Hp} {q rp : Addr} {row : Parts} {xs : List V} {o : HO} (h : RowT H q row) (hr : H rp = some (.lst xs)) (hne : q ≠ rp) : RowT (L2.upd H rp o) q row := by
  obtain ⟨ps, a, b, c⟩ := h
  exact ⟨ps, by rw [upd_ne hne]; exact a, b, fun k hk => by rw [upd_ne (ne_of (c k hk) hr (by intro z; cases z))]; exact c k hk⟩
theorem RowsG.ex {H H' : Hp} {rp : Addr} {n : Nat} {G : Parts → Prop} (h : RowsG H rp n G) (e : Ex H H') : RowsG H' rp n G := by
  obtain ⟨qs, a, b, c⟩ := h
  exact ⟨qs, e _ _ a, b, fun q hq => ⟨(c q hq).1, by obtain ⟨row, h1, h2⟩ := (c q hq).2; exact ⟨row, h1.ex e, h2⟩⟩⟩
theorem RowsG.app {H : Hp} {rp p : Addr} {n : Nat} {G : Parts → Prop} {qs : List Addr} {row : Parts} (h1 : H rp = some (.lst (qs.map V.ref))) (h2 : qs.length = n) (h3 : ∀ q ∈ qs, q ≠ rp ∧ ∃ row, RowT H q row ∧ G row) (hp : p ≠ rp) (hR : RowT H p row) (hG : G row) :
    RowsG (L2.upd H rp (.lst (qs.map V.ref ++ [.ref p]))) rp (n + 1) G := by
  refine ⟨qs ++ [p], by rw [List.map_append]; exact upd_same, by rw [List.length_append, h2]; rfl, fun q hq => ?_⟩
  rcases List.mem_append.mp hq with h | h
  · obtain ⟨a, r, b, c⟩ := h3 q h
    exact ⟨a, r, b.upd h1 a, c⟩
  · simp at h
    subst h
    exact ⟨hp, row, hR.upd h1 hp, hG⟩
theorem q_appR {K : PySem.W.Frag} {σ : L2.St} {H : Hp} {ta te : TE} {D : Ends} {tz : TS} {rp : Addr} {n : Nat} {G : Parts → Prop} (h : RowsG H rp n G) (hn : n < 1000) (ha : Ev ta σ H (.ref rp)) (he : ER te σ H G) (k : ∀ H1 o, Ex H H1 → RowsG (upd H1 rp o) rp (n + 1) G → tz D σ (upd H1 rp o)) :
    tSeq (tDrop (tBM K "list" rAppend ta (tCons te tNil))) tz D σ H := ha H (Ex.refl H) _ fun H1 e1 => by
  obtain ⟨qs, h1, h2, h3⟩ := h
  refine ⟨Or.inl ⟨rfl, _, sq_of (e1 rp _ h1)⟩, he H1 e1 _ fun p H2 row hp e2 hR hG => ?_⟩
  refine ⟨rp, qs.map V.ref, .ref p, rfl, rfl, e2 rp _ (e1 rp _ h1), sz_lt (by rw [List.length_map]; omega), k H2 _ (e1.trans e2) (RowsG.app (e2 rp _ (e1 rp _ h1)) h2 (fun q hq => ⟨(h3 q hq).1, ?_⟩) ?_ hR hG)⟩
  · obtain ⟨r, a, b⟩ := (h3 q hq).2
    exact ⟨r, a.ex (e1.trans e2), b⟩
  · exact (ne_of_none (e1 _ _ h1) hp).symm
/-! ### lists of rows, made at once -/
def EW (te : TE) (σ : L2.St) (H : Hp) (G : Parts → Prop) : Prop := ∀ H1, Ex H H1 → ∀ Q : VK, (∀ p H2 row, Ex H1 H2 → RowT H2 p row → G row → Q (.ref p) H2) → te σ H1 Q
def EWA (ta : TA) (σ : L2.St) (H : Hp) (n : Nat) (G : Parts → Prop) : Prop := ∀ H1, Ex H H1 → ∀ Q : List V → Hp → Prop, (∀ (qs : List Addr) H2, Ex H1 H2 → qs.length = n → (∀ q ∈ qs, ∃ row, RowT H2 q row ∧ G row) → Q (qs.map V.ref) H2) → ta σ H1 Q
section
variable {K : PySem.W.Frag} {σ : L2.St} {H : Hp} {ta : TA} {te : TE} {D : Ends} {tz : TS} {G : Parts → Prop} {n : Nat}
theorem ER.ew (h : ER te σ H G) : EW te σ H G := fun H1 e1 Q q => h H1 e1 Q fun p H2 row _ e2 hR g => q p H2 row e2 hR g
theorem ewa_nil : EWA tNil σ H 0 G := fun H1 _ Q q => q [] H1 (Ex.refl H1) rfl fun _ h => absurd h List.not_mem_nil
theorem ewa_cons (h : EW te σ H G) (hr : EWA ta σ H n G) : EWA (tCons te ta) σ H (n + 1) G := fun H1 e1 Q q =>
  h H1 e1 _ fun p H2 row e2 hR g => hr H2 (e1.trans e2) _ fun qs H3 e3 hl hq => q (p :: qs) H3 (e2.trans e3) (congrArg (· + 1) hl) fun q' hq' => by
    rcases List.mem_cons.mp hq' with rfl | h'
    · exact ⟨row, hR.ex e3, g⟩
    · exact hq q' h'
theorem rows_lst (h : EWA ta σ H n G) (hn : n ≤ 1000) {Q : VK} (q : ∀ rp H2, H rp = none → Ex H H2 → RowsG H2 rp n G → Q (.ref rp) H2) : tLst ta σ H Q := h H (Ex.refl H) _ fun qs H1 e1 hl hq =>
  ⟨sz_of (by rw [List.length_map]; omega), fun rp hrp => q rp _ (fresh_back e1 hrp) (e1.trans (Ex.new hrp)) ⟨qs, upd_same, hl, fun q' h' => by
    obtain ⟨row, hR, g⟩ := hq q' h'
    obtain ⟨ps, hp, _⟩ := hR.pl
    exact ⟨ne_of_none hp hrp, row, hR.ex (Ex.new hrp), g⟩⟩⟩
theorem q_asgRows {i : Nat} (h : EWA ta σ H n G) (hn : n ≤ 1000) (k : ∀ rp H2, H rp = none → Ex H H2 → RowsG H2 rp n G → tz D (σ.set i (some (.ref rp))) H2) : tSeq (tAsg (tLst ta) (gName i)) tz D σ H := rows_lst (Q := fun v H2 => tz D (σ.set i (some v)) H2) h hn k
theorem q_appW {rp : Addr} (h : RowsG H rp n G) (hn : n < 1000) {tb : TE} (ha : Ev tb σ H (.ref rp)) (he : ∀ H1, Ex H H1 → ∀ Q : VK, (∀ p H2 row, p ≠ rp → Ex H1 H2 → RowT H2 p row → G row → Q (.ref p) H2) → te σ H1 Q) (k : ∀ H1 o, Ex H H1 → RowsG (upd H1 rp o) rp (n + 1) G → tz D σ (upd H1 rp o)) :
    tSeq (tDrop (tBM K "list" rAppend tb (tCons te tNil))) tz D σ H := ha H (Ex.refl H) _ fun H1 e1 => by
  obtain ⟨qs, h1, h2, h3⟩ := h
  refine ⟨Or.inl ⟨rfl, _, sq_of (e1 rp _ h1)⟩, he H1 e1 _ fun p H2 row hp e2 hR hG => ?_⟩
  refine ⟨rp, qs.map V.ref, .ref p, rfl, rfl, e2 rp _ (e1 rp _ h1), sz_lt (by rw [List.length_map]; omega), k H2 _ (e1.trans e2) (RowsG.app (e2 rp _ (e1 rp _ h1)) h2 (fun q hq => ⟨(h3 q hq).1, ?_⟩) hp hR hG)⟩
  obtain ⟨r, a, b⟩ := (h3 q hq).2
  exact ⟨r, a.ex (e1.trans e2), b⟩
end
end My

set_option Elab.async false
set_option linter.all false
set_option maxRecDepth 100000
set_option maxHeartbeats 4000000
namespace My
open PySem PySem.Spec PyProof.Rows L2 Evl
open SX (S S_len S_cat S_beq S_beq_eq S_inj S_tl)
section
variable {P : Program} {w : World} {K : PySem.W.Frag} {mg : Str → Option Value} {base : Heap}
abbrev s_law_put : Stmt := top 14
abbrev N_law_put : List Str := ["row", "k", "start", "stop"]
theorem sc_law_put : FnScope N_law_put ["row", "k", "start", "stop"] (defScope s_law_put) := ⟨rfl, rfl, rfl, by decide +kernel, rfl, by decide +kernel, by decide +kernel⟩
def spPut : Sp := fun vs H Q _ => ∃ (p : Addr) (row : Parts) (k a b : Int), vs = [.ref p, .int k, .int a, .int b] ∧ RowT H p row ∧ 0 ≤ k ∧ row.length ≤ 1000 ∧ ∀ p2 H2 row2, H p2 = none → Ex H H2 → RowT H2 p2 row2 → row2.length ≤ 2 * row.length + 1 → Q (.ref p2) H2
theorem ok_law_put (T : TT mg) (F : At K mg "_law_put" s_law_put) : Dn P w K mg base 1 "_law_put" s_law_put ["row", "k", "start", "stop"] spPut := by
  refine dn_ok F sc_law_put (fun _ _ _ _ _ _ us hl => match us, hl with | [_, _, _, _], _ => rfl) (fun vs H Q E h => ?_) (fun f cdv A outer t H vs Q E hr h => ?_)
  · obtain ⟨p, row, k, a, b, rfl, _⟩ := h; rfl
  · obtain ⟨p, row, k, a, b, rfl, hR, hk, hz, q⟩ := h
    refine ⟨_, (pss_one (ps_ret (pe_op op_cat (pe_op op_cat (pe_slice sl_list (pv 0) po_none (po_some (pv 1))) (pe_lst (pa_cons (pe_tup (pa_cons (pv 2) (pa_cons (pv 3) pa_nil))) pa_nil))) (pe_slice sl_list (pv 0) (po_some (pe_op op_add (pv 1) pe_int)) po_none)))), ?_⟩
    have c1 := cutL_len row none (some k)
    have c2 := cutL_len row (some (k + 1)) none
    refine s_retR (er_cat (n := 0) (er_cat (n := 0) (er_slice (K := K) (ev_var rfl) eo_none (eo_some (ev_var rfl)) hR) (fun H1 e1 => er_one (ev_var rfl) (fun _ _ => ev_var rfl)) (fun r s h1 h2 => ?_)) (fun H1 e1 => er_slice (K := K) (ev_var rfl) (eo_some (ev_op (ev_var rfl) ev_c rv_I0)) eo_none (hR.ex e1)) (fun r s h1 h2 => ?_)) (fun p2 H2 row2 np e2 hR2 hG => q p2 H2 row2 np e2 hR2 ?_)
    · rw [h1, h2]; show _ + 1 ≤ _; omega
    · obtain ⟨x, y, rfl, rfl, rfl⟩ := h1
      rw [h2, List.length_append]; show _ + 1 + _ ≤ _; omega
    · obtain ⟨x, y, ⟨x1, x2, rfl, rfl, rfl⟩, rfl, rfl⟩ := hG
      rw [List.length_append, List.length_append]
      show _ + 1 + _ ≤ _
      omega
theorem er_put {σ : L2.St} {H : Hp} {E : XK} {tr tk ta tb : TE} {p : Addr} {row : Parts} {k a b : Int} (hr : Ev tr σ H (.ref p)) (hk : Ev tk σ H (.int k)) (ha : Ev ta σ H (.int a)) (hb : Ev tb σ H (.int b)) (hR : RowT H p row) (h0 : 0 ≤ k) (hz : row.length ≤ 499) :
    ER (tCall spPut [] E (tCons tr (tCons tk (tCons ta (tCons tb tNil))))) σ H (fun r => r.length ≤ 1000) := fun H0 e0 Q q =>
  (ea_cons hr (ea_cons hk (ea_cons ha (ea_cons hb ea_nil)))) H0 e0 _ fun H1 e1 => ⟨p, row, k, a, b, rfl, hR.ex (e0.trans e1), h0, by omega, fun p2 H2 row2 np e2 hR2 hl => q p2 H2 row2 (fresh_back e1 np) (e1.trans e2) hR2 (by omega)⟩
def RetG (n : Nat) (H : Hp) (Q : VK) : Prop := ∀ rp H2, H rp = none → Ex H H2 → RowsG H2 rp n (fun r => r.length ≤ 1000) → Q (.ref rp) H2
abbrev s_law_changed : Stmt := top 15
abbrev N_law_changed : List Str := ["line", "row", "digits", "k", "start", "stop", "rows", "j"]
theorem sc_law_changed : FnScope N_law_changed ["line", "row", "digits"] (defScope s_law_changed) := ⟨rfl, rfl, rfl, by decide +kernel, rfl, by decide +kernel, by decide +kernel⟩
def spCh (K : PySem.W.Frag) : Sp := fun vs H Q _ => ∃ (line : List Nat) (p dp : Addr) (row : Parts) (ds : List Int), vs = [.str (S line), .ref p, .ref dp] ∧ line.length ≤ 1000 ∧ RowT H p row ∧ 1 ≤ row.length ∧ row.length ≤ 402 ∧ SqL K H dp (ds.map V.int) ∧ 3 ≤ ds.length ∧ ∀ n, n ≤ 100 → RetG n H Q
theorem ok_law_changed (T : TT mg) (F : At K mg "_law_changed" s_law_changed) (D_law_put : Dn P w K mg base 1 "_law_put" s_law_put ["row", "k", "start", "stop"] spPut) : Dn P w K mg base 2 "_law_changed" s_law_changed ["line", "row", "digits"] (spCh K) := by
  refine dn_ok F sc_law_changed (fun _ _ _ _ _ _ us hl => match us, hl with | [_, _, _], _ => rfl) (fun vs H Q E h => ?_) (fun f cdv A outer t H vs Q E hr h => ?_)
  · obtain ⟨line, p, dp, row, ds, rfl, _⟩ := h; rfl
  · obtain ⟨line, p, dp, row, ds, rfl, hz, hR, hlen, hrw, hS, h3, q⟩ := h
    refine ⟨_, (pss_cons (ps_set (i := 3) sc_law_changed.nd rfl (Or.inl rfl) (pe_op op_mod (pe_callTy call_int1 (by rfl) T.int_ (by decide +kernel) (pa_cons (pe_ix ix_list (pv 2) pe_int (fun _ _ => rfl)) pa_nil)) (pe_callB call_len_seq (by rfl) T.len boot_len (pa_cons (pv 1) pa_nil))))
      (pss_cons (ps_set (i := 4) sc_law_changed.nd rfl (Or.inl rfl) (pe_ix ix_tup (pe_ix ix_list (pv 1) (pv 3) (fun _ _ => rfl)) pe_int (fun _ _ => rfl)))
      (pss_cons (ps_set (i := 5) sc_law_changed.nd rfl (Or.inl rfl) (pe_ix ix_tup (pe_ix ix_list (pv 1) (pv 3) (fun _ _ => rfl)) pe_int (fun _ _ => rfl)))
      (pss_cons (ps_set (i := 6) sc_law_changed.nd rfl (Or.inl rfl) (pe_lst (pa_cons (pe_dn D_law_put hr (by decide) rfl (pa_cons (pv 1) (pa_cons (pv 3) (pa_cons (pv 4) (pa_cons (pv 4) pa_nil))))) (pa_cons (pe_dn D_law_put hr (by decide) rfl (pa_cons (pv 1) (pa_cons (pv 3) (pa_cons (pv 5) (pa_cons (pv 4) pa_nil))))) (pa_cons (pe_dn D_law_put hr (by decide) rfl (pa_cons (pv 1) (pa_cons (pv 3) (pa_cons (pv 4) (pa_cons (pe_op op_add (pe_op op_add (pe_callB call_len_str (by rfl) T.len boot_len (pa_cons (pv 0) pa_nil)) pe_int) (pe_ix ix_list (pv 2) pe_int (fun _ _ => rfl))) pa_nil))))) pa_nil)))))
      (pss_cons (ps_expr (pe_bm PySem.F.plainAttrs_list PySem.F.slot_list_append PySem.F.type_list_append mt_append (pv 6) (pa_cons (pe_dn D_law_put hr (by decide) rfl (pa_cons (pv 1) (pa_cons (pv 3) (pa_cons (pe_op op_sub (pe_un un_neg pe_int) (pe_ix ix_list (pv 2) pe_int (fun _ _ => rfl))) (pa_cons (pv 5) pa_nil))))) pa_nil)))
      (pss_cons (ps_expr (pe_bm PySem.F.plainAttrs_list PySem.F.slot_list_append PySem.F.type_list_append mt_append (pv 6) (pa_cons (pe_dn D_law_put hr (by decide) rfl (pa_cons (pv 1) (pa_cons pe_int (pa_cons (pe_un un_neg pe_int) (pa_cons (pe_ix ix_tup (pe_ix ix_list (pv 1) pe_int (fun _ _ => rfl)) pe_int (fun _ _ => rfl)) pa_nil))))) pa_nil)))
      (pss_cons (ps_expr (pe_bm PySem.F.plainAttrs_list PySem.F.slot_list_append PySem.F.type_list_append mt_append (pv 6) (pa_cons (pe_dn D_law_put hr (by decide) rfl (pa_cons (pv 1) (pa_cons (pe_op op_sub (pe_callB call_len_seq (by rfl) T.len boot_len (pa_cons (pv 1) pa_nil)) pe_int) (pa_cons (pe_ix ix_tup (pe_ix ix_list (pv 1) (pe_un un_neg pe_int) (fun _ _ => rfl)) pe_int (fun _ _ => rfl)) (pa_cons (pe_op op_add (pe_callB call_len_str (by rfl) T.len boot_len (pa_cons (pv 0) pa_nil)) pe_int) pa_nil))))) pa_nil)))
      (pss_cons (ps_expr (pe_bm PySem.F.plainAttrs_list PySem.F.slot_list_append PySem.F.type_list_append mt_append (pv 6) (pa_cons (pe_op op_cat (pe_slice sl_list (pv 1) po_none (po_some (pe_op op_add (pv 3) pe_int))) (pe_slice sl_list (pv 1) (po_some (pv 3)) po_none)) pa_nil)))
      (pss_cons (ps_expr (pe_bm PySem.F.plainAttrs_list PySem.F.slot_list_append PySem.F.type_list_append mt_append (pv 6) (pa_cons (pe_op op_cat (pe_slice sl_list (pv 1) po_none (po_some (pv 3))) (pe_slice sl_list (pv 1) (po_some (pe_op op_add (pv 3) pe_int)) po_none)) pa_nil)))
      (pss_cons (ps_expr (pe_bm PySem.F.plainAttrs_list PySem.F.slot_list_append PySem.F.type_list_append mt_append (pv 6) (pa_cons (pe_dn D_law_put hr (by decide) rfl (pa_cons (pv 1) (pa_cons (pv 3) (pa_cons (pv 4) (pa_cons (pe_op op_add (pv 5) pe_int) pa_nil))))) pa_nil)))
      (pss_cons (ps_expr (pe_bm PySem.F.plainAttrs_list PySem.F.slot_list_append PySem.F.type_list_append mt_append (pv 6) (pa_cons (pe_dn D_law_put hr (by decide) rfl (pa_cons (pv 1) (pa_cons (pv 3) (pa_cons (pv 4) (pa_cons (pe_op op_sub (pv 5) pe_int) pa_nil))))) pa_nil)))
      (pss_cons (ps_expr (pe_bm PySem.F.plainAttrs_list PySem.F.slot_list_append PySem.F.type_list_append mt_append (pv 6) (pa_cons (pe_dn D_law_put hr (by decide) rfl (pa_cons (pv 1) (pa_cons (pv 3) (pa_cons (pe_op op_add (pv 4) pe_int) (pa_cons (pe_op op_add (pv 5) pe_int) pa_nil))))) pa_nil)))
      (pss_cons (ps_expr (pe_bm PySem.F.plainAttrs_list PySem.F.slot_list_append PySem.F.type_list_append mt_append (pv 6) (pa_cons (pe_dn D_law_put hr (by decide) rfl (pa_cons (pv 1) (pa_cons (pv 3) (pa_cons (pe_op op_add (pv 4) pe_int) (pa_cons (pv 5) pa_nil))))) pa_nil)))
      (pss_cons (ps_expr (pe_bm PySem.F.plainAttrs_list PySem.F.slot_list_append PySem.F.type_list_append mt_append (pv 6) (pa_cons (pe_dn D_law_put hr (by decide) rfl (pa_cons (pv 1) (pa_cons (pv 3) (pa_cons (pe_op op_pow pe_int pe_int) (pa_cons (pe_op op_add (pe_op op_pow pe_int pe_int) pe_int) pa_nil))))) pa_nil)))
      (pss_cons (ps_expr (pe_bm PySem.F.plainAttrs_list PySem.F.slot_list_append PySem.F.type_list_append mt_append (pv 6) (pa_cons (pe_dn D_law_put hr (by decide) rfl (pa_cons (pv 1) (pa_cons (pv 3) (pa_cons (pe_un un_neg (pe_op op_pow pe_int pe_int)) (pa_cons (pv 5) pa_nil))))) pa_nil)))
      (pss_cons (ps_if (pt_cmpR op_gt (pe_callB call_len_seq (by rfl) T.len boot_len (pa_cons (pv 1) pa_nil)) pe_int (nomark _)) (pss_cons (ps_set (i := 7) sc_law_changed.nd rfl (Or.inl rfl) (pe_op op_add pe_int (pe_op op_mod (pe_callTy call_int1 (by rfl) T.int_ (by decide +kernel) (pa_cons (pe_ix ix_list (pv 2) pe_int (fun _ _ => rfl)) pa_nil)) (pe_op op_sub (pe_callB call_len_seq (by rfl) T.len boot_len (pa_cons (pv 1) pa_nil)) pe_int))))
        (pss_cons (ps_expr (pe_bm PySem.F.plainAttrs_list PySem.F.slot_list_append PySem.F.type_list_append mt_append (pv 6) (pa_cons (pe_dn D_law_put hr (by decide) rfl (pa_cons (pv 1) (pa_cons (pv 7) (pa_cons (pe_op op_sub (pe_ix ix_tup (pe_ix ix_list (pv 1) (pe_op op_sub (pv 7) pe_int) (fun _ _ => rfl)) pe_int (fun _ _ => rfl)) pe_int) (pa_cons (pe_ix ix_tup (pe_ix ix_list (pv 1) (pv 7) (fun _ _ => rfl)) pe_int (fun _ _ => rfl)) pa_nil))))) pa_nil)))
        (pss_one (ps_expr (pe_bm PySem.F.plainAttrs_list PySem.F.slot_list_append PySem.F.type_list_append mt_append (pv 6) (pa_cons (pe_op op_cat (pe_op op_cat (pe_slice sl_list (pv 1) po_none (po_some (pe_op op_sub (pv 7) pe_int))) (pe_lst (pa_cons (pe_ix ix_list (pv 1) (pv 7) (fun _ _ => rfl)) (pa_cons (pe_ix ix_list (pv 1) (pe_op op_sub (pv 7) pe_int) (fun _ _ => rfl)) pa_nil)))) (pe_slice sl_list (pv 1) (po_some (pe_op op_add (pv 7) pe_int)) po_none)) pa_nil)))))) pss_nil)
      (pss_one (ps_ret (pv 6))))))))))))))))))), ?_⟩
    have c20 : CPow 10 20 := by unfold CPow; decide
    have r := Ex.refl H
    refine q_asg (ev_op (ev_int (ev_op (ev_var rfl) ev_c (rv_ixL (K := K) (ex_l r hS) (at_d (i := 0) (by omega))))) (ev_lenR (K := K) hR (ev_var rfl)) (rv_I (show (0 : Int) < (row.length : Int) by omega))) fun H1 e1 => ?_
    obtain ⟨kN, hkN, hk1⟩ : ∃ kN : Nat, ds.getD 0 0 % (row.length : Int) = (kN : Int) ∧ kN < row.length := by
      have a := Int.emod_nonneg (ds.getD 0 0) (show (row.length : Int) ≠ 0 by omega)
      have b := Int.emod_lt_of_pos (ds.getD 0 0) (show (0 : Int) < (row.length : Int) by omega)
      exact ⟨(ds.getD 0 0 % (row.length : Int)).toNat, by omega, by omega⟩
    rw [hkN]
    have hk0 : (0 : Int) ≤ (kN : Int) := by omega
    refine q_asg (ev_start (K := K) (hR.ex e1) (ixN_nat hk1) (ev_var rfl) (ev_var rfl)) fun H2 e2 => ?_
    have e12 := e1.trans e2
    refine q_asg (ev_stop (K := K) (hR.ex e12) (ixN_nat hk1) (ev_var rfl) (ev_var rfl)) fun H3 e3 => ?_
    have e13 := e12.trans e3
    refine q_asgRows (G := fun r => r.length ≤ 1000) (ewa_cons (er_put (ev_var rfl) (ev_var rfl) (ev_var rfl) (ev_var rfl) (hR.ex e13) hk0 (by omega)).ew (ewa_cons (er_put (ev_var rfl) (ev_var rfl) (ev_var rfl) (ev_var rfl) (hR.ex e13) hk0 (by omega)).ew (ewa_cons (er_put (ev_var rfl) (ev_var rfl) (ev_var rfl) (ev_op (ev_op (ev_lenSS (ev_var rfl) (by omega)) ev_c rv_I0) (ev_op (ev_var rfl) ev_c (rv_ixL (K := K) (ex_l e13 hS) (at_d (i := 2) (by omega)))) rv_I0) (hR.ex e13) hk0 (by omega)).ew ewa_nil))) (by decide) fun rp HC nrp eC0 hrs => ?_
    have nR : H rp = none := fresh_back e13 nrp
    have eC := e13.trans eC0
    clear eC0
    refine q_appR (K := K) hrs (by decide) (ev_var rfl) (er_put (ev_var rfl) (ev_var rfl) (ev_op (ev_un ev_c ru_neg) (ev_op (ev_var rfl) ev_c (rv_ixL (K := K) (ex_l eC hS) (at_d (i := 2) (by omega)))) rv_I0) (ev_var rfl) (hR.ex eC) hk0 (by omega)) fun HD o eD hrs => ?_
    replace eC := Ex.mut (eC.trans eD) (o := o) nR
    refine q_appR (K := K) hrs (by decide) (ev_var rfl) (er_put (ev_var rfl) ev_c (ev_un ev_c ru_neg) (ev_stop (K := K) (k := 0) (hR.ex eC) (ixN_nat (j := 0) (by omega)) (ev_var rfl) ev_c) (hR.ex eC) (by decide) (by omega)) fun HD o eD hrs => ?_
    replace eC := Ex.mut (eC.trans eD) (o := o) nR
    refine q_appR (K := K) hrs (by decide) (ev_var rfl) (er_put (ev_var rfl) (ev_op (ev_lenR (K := K) (hR.ex eC) (ev_var rfl)) ev_c rv_I0) (ev_start (K := K) (hR.ex eC) (ixN_last hlen) (ev_var rfl) (ev_un ev_c ru_neg)) (ev_op (ev_lenSS (ev_var rfl) (by omega)) ev_c rv_I0) (hR.ex eC) (by omega) (by omega)) fun HD o eD hrs => ?_
    replace eC := Ex.mut (eC.trans eD) (o := o) nR
    refine q_appR (K := K) hrs (by decide) (ev_var rfl) ((er_cat (n := 0) (er_slice (K := K) (ev_var rfl) eo_none (eo_some (ev_op (ev_var rfl) ev_c rv_I0)) (hR.ex eC)) (fun H1 e1 => (er_slice (K := K) (ev_var rfl) (eo_some (ev_var rfl)) eo_none (hR.ex (eC.trans e1)))) (fun r s h1 h2 => by rw [h1, h2]; have a1 := cutL_len row none (some ((kN : Int) + 1)); have a2 := cutL_len row (some (kN : Int)) none; omega)).mono (fun r h => by obtain ⟨x, y, rfl, rfl, rfl⟩ := h; rw [List.length_append]; have a1 := cutL_len row none (some ((kN : Int) + 1)); have a2 := cutL_len row (some (kN : Int)) none; omega)) fun HD o eD hrs => ?_
    replace eC := Ex.mut (eC.trans eD) (o := o) nR
    refine q_appR (K := K) hrs (by decide) (ev_var rfl) ((er_cat (n := 0) (er_slice (K := K) (ev_var rfl) eo_none (eo_some (ev_var rfl)) (hR.ex eC)) (fun H1 e1 => (er_slice (K := K) (ev_var rfl) (eo_some (ev_op (ev_var rfl) ev_c rv_I0)) eo_none (hR.ex (eC.trans e1)))) (fun r s h1 h2 => by rw [h1, h2]; have a1 := cutL_len row none (some (kN : Int)); have a2 := cutL_len row (some ((kN : Int) + 1)) none; omega)).mono (fun r h => by obtain ⟨x, y, rfl, rfl, rfl⟩ := h; rw [List.length_append]; have a1 := cutL_len row none (some (kN : Int)); have a2 := cutL_len row (some ((kN : Int) + 1)) none; omega)) fun HD o eD hrs => ?_
    replace eC := Ex.mut (eC.trans eD) (o := o) nR
    refine q_appR (K := K) hrs (by decide) (ev_var rfl) (er_put (ev_var rfl) (ev_var rfl) (ev_var rfl) (ev_op (ev_var rfl) ev_c rv_I0) (hR.ex eC) hk0 (by omega)) fun HD o eD hrs => ?_
    replace eC := Ex.mut (eC.trans eD) (o := o) nR
    refine q_appR (K := K) hrs (by decide) (ev_var rfl) (er_put (ev_var rfl) (ev_var rfl) (ev_var rfl) (ev_op (ev_var rfl) ev_c rv_I0) (hR.ex eC) hk0 (by omega)) fun HD o eD hrs => ?_
    replace eC := Ex.mut (eC.trans eD) (o := o) nR
    refine q_appR (K := K) hrs (by decide) (ev_var rfl) (er_put (ev_var rfl) (ev_var rfl) (ev_op (ev_var rfl) ev_c rv_I0) (ev_op (ev_var rfl) ev_c rv_I0) (hR.ex eC) hk0 (by omega)) fun HD o eD hrs => ?_
    replace eC := Ex.mut (eC.trans eD) (o := o) nR
    refine q_appR (K := K) hrs (by decide) (ev_var rfl) (er_put (ev_var rfl) (ev_var rfl) (ev_op (ev_var rfl) ev_c rv_I0) (ev_var rfl) (hR.ex eC) hk0 (by omega)) fun HD o eD hrs => ?_
    replace eC := Ex.mut (eC.trans eD) (o := o) nR
    refine q_appR (K := K) hrs (by decide) (ev_var rfl) (er_put (ev_var rfl) (ev_var rfl) (ev_op ev_c ev_c (rv_I c20)) (ev_op (ev_op ev_c ev_c (rv_I c20)) ev_c rv_I0) (hR.ex eC) hk0 (by omega)) fun HD o eD hrs => ?_
    replace eC := Ex.mut (eC.trans eD) (o := o) nR
    refine q_appR (K := K) hrs (by decide) (ev_var rfl) (er_put (ev_var rfl) (ev_var rfl) (ev_un (ev_op ev_c ev_c (rv_I c20)) ru_neg) (ev_var rfl) (hR.ex eC) hk0 (by omega)) fun HD o eD hrs => ?_
    replace eC := Ex.mut (eC.trans eD) (o := o) nR
    have fin : ∀ (n : Nat) (H' : Hp), n ≤ 100 → Ex H H' → RowsG H' rp n (fun r => r.length ≤ 1000) → ∀ H4, Ex H' H4 → Q (.ref rp) H4 := fun n H' hn e h H4 e4 => q n hn rp H4 nR (e.trans e4) (h.ex e4)
    refine q_when (et_test (ev_op (ev_lenR (K := K) (hR.ex eC) (ev_var rfl)) ev_c rv_I0)) (fun hb HE eE => ?_) (fun hb HE eE => ?_)
    · have h2 : 1 < row.length := by
        have := of_decide_eq_true hb
        omega
      replace eC := eC.trans eE
      replace hrs := hrs.ex eE
      refine q_asg (ev_op ev_c (ev_op (ev_int (ev_op (ev_var rfl) ev_c (rv_ixL (K := K) (ex_l eC hS) (at_d (i := 1) (by omega))))) (ev_op (ev_lenR (K := K) (hR.ex eC) (ev_var rfl)) ev_c rv_I0) (rv_I (show (0 : Int) < (row.length : Int) - 1 by omega))) rv_I0) fun HF eF => ?_
      obtain ⟨jN, hjN, hj0, hj1⟩ : ∃ jN : Nat, (1 : Int) + ds.getD 1 0 % ((row.length : Int) - 1) = (jN : Int) ∧ 1 ≤ jN ∧ jN < row.length := by
        have a := Int.emod_nonneg (ds.getD 1 0) (show (row.length : Int) - 1 ≠ 0 by omega)
        have b := Int.emod_lt_of_pos (ds.getD 1 0) (show (0 : Int) < (row.length : Int) - 1 by omega)
        exact ⟨((1 : Int) + ds.getD 1 0 % ((row.length : Int) - 1)).toNat, by omega, by omega, by omega⟩
      rw [hjN]
      replace eC := eC.trans eF
      replace hrs := hrs.ex eF
      have ij : ixN row.length ((jN : Int) - 1) = some (jN - 1) := by
        have e : (jN : Int) - 1 = ((jN - 1 : Nat) : Int) := by omega
        rw [e]
        exact ixN_nat (by omega)
      refine q_appR (K := K) hrs (by decide) (ev_var rfl) (er_put (ev_var rfl) (ev_var rfl) (ev_op (ev_stop (K := K) (hR.ex eC) ij (ev_var rfl) (ev_op (ev_var rfl) ev_c rv_I0)) ev_c rv_I0) (ev_stop (K := K) (hR.ex eC) (ixN_nat hj1) (ev_var rfl) (ev_var rfl)) (hR.ex eC) (by omega) (by omega)) fun HG o eG hrs => ?_
      replace eC := Ex.mut (eC.trans eG) (o := o) nR
      have b1 := cutL_len row none (some ((jN : Int) - 1))
      have b2 := cutL_len row (some ((jN : Int) + 1)) none
      refine q_appR (K := K) hrs (by decide) (ev_var rfl) ((er_cat (n := 0) (er_cat (n := 0) (er_slice (K := K) (ev_var rfl) eo_none (eo_some (ev_op (ev_var rfl) ev_c rv_I0)) (hR.ex eC)) (fun H1 e1 => er_parts (K := K) ((hR.ex eC).ex e1) (ixN_nat hj1) ij (ev_var rfl) (ev_var rfl) (ev_op (ev_var rfl) ev_c rv_I0)) (fun r s h1 h2 => by rw [h1, h2]; show _ + 2 ≤ _; omega)) (fun H1 e1 => er_slice (K := K) (ev_var rfl) (eo_some (ev_op (ev_var rfl) ev_c rv_I0)) eo_none ((hR.ex eC).ex e1)) (fun r s h1 h2 => by
          obtain ⟨x, y, rfl, rfl, rfl⟩ := h1
          rw [h2, List.length_append]; show _ + 2 + _ ≤ _; omega)).mono (fun r h => by
          obtain ⟨x, y, ⟨x1, x2, rfl, rfl, rfl⟩, rfl, rfl⟩ := h
          rw [List.length_append, List.length_append]
          show _ + 2 + _ ≤ _
          omega)) fun HH o eH hrs => ?_
      replace eC := Ex.mut (eC.trans eH) (o := o) nR
      exact s_ret (ev_var rfl) fun H4 e4 => fin _ _ (by decide) eC hrs H4 e4
    · exact s_ret (ev_var rfl) fun H4 e4 => fin _ _ (by decide) (eC.trans eE) (hrs.ex eE) H4 e4
abbrev s_law_longer : Stmt := top 17
abbrev N_law_longer : List Str := ["line", "row", "far"]
theorem sc_law_longer : FnScope N_law_longer ["line", "row"] (defScope s_law_longer) := ⟨rfl, rfl, rfl, by decide +kernel, rfl, by decide +kernel, by decide +kernel⟩
def spLo : Sp := fun vs H Q _ => ∃ (line : List Nat) (p : Addr) (row : Parts), vs = [.str (S line), .ref p] ∧ line.length ≤ 1000 ∧ RowT H p row ∧ row.length ≤ 900 ∧ RetG 5 H Q
theorem ok_law_longer (T : TT mg) (F : At K mg "_law_longer" s_law_longer) : Dn P w K mg base 1 "_law_longer" s_law_longer ["line", "row"] spLo := by
  refine dn_ok F sc_law_longer (fun _ _ _ _ _ _ us hl => match us, hl with | [_, _], _ => rfl) (fun vs H Q E h => ?_) (fun f cdv A outer t H vs Q E hr h => ?_)
  · obtain ⟨line, p, row, rfl, _⟩ := h; rfl
  · obtain ⟨line, p, row, rfl, hz, hR, hrw, q⟩ := h
    refine ⟨_, (pss_cons (ps_set (i := 2) sc_law_longer.nd rfl (Or.inl rfl) (pe_callB call_len_str (by rfl) T.len boot_len (pa_cons (pv 0) pa_nil)))
      (pss_one (ps_ret (pe_lst (pa_cons (pe_op op_cat (pv 1) (pe_lst (pa_cons (pe_tup (pa_cons (pv 2) (pa_cons (pv 2) pa_nil))) pa_nil))) (pa_cons (pe_op op_cat (pv 1) (pe_lst (pa_cons (pe_tup (pa_cons (pv 2) (pa_cons (pe_op op_add (pv 2) pe_int) pa_nil))) pa_nil))) (pa_cons (pe_op op_cat (pv 1) (pe_lst (pa_cons (pe_tup (pa_cons (pe_callB (call_max2 rfl) (by rfl) T.max (by decide +kernel) (pa_cons pe_int (pa_cons (pe_op op_sub (pv 2) pe_int) pa_nil))) (pa_cons (pv 2) pa_nil))) pa_nil))) (pa_cons (pe_op op_cat (pv 1) (pe_lst (pa_cons (pe_tup (pa_cons (pe_un un_neg pe_int) (pa_cons (pv 2) pa_nil))) pa_nil))) (pa_cons (pe_op op_cat (pv 1) (pe_lst (pa_cons (pe_tup (pa_cons pe_int (pa_cons (pv 2) pa_nil))) pa_nil))) pa_nil))))))))), ?_⟩
    refine q_asg (ev_lenSS (ev_var rfl) (by omega)) fun H1 e1 => ?_
    exact rows_lst (G := fun r => r.length ≤ 1000) (ewa_cons (((er_catV (ev_var rfl) (hR.ex e1) (fun H2 e2 => er_one (ev_var rfl) (fun _ _ => (ev_var rfl))) (fun s h => by rw [h]; show _ + 1 ≤ _; omega)).mono (fun r h => by obtain ⟨b, rfl, rfl⟩ := h; rw [List.length_append]; show _ + 1 ≤ _; omega)).ew) (ewa_cons (((er_catV (ev_var rfl) (hR.ex e1) (fun H2 e2 => er_one (ev_var rfl) (fun _ _ => (ev_op (ev_var rfl) ev_c rv_I0))) (fun s h => by rw [h]; show _ + 1 ≤ _; omega)).mono (fun r h => by obtain ⟨b, rfl, rfl⟩ := h; rw [List.length_append]; show _ + 1 ≤ _; omega)).ew) (ewa_cons (((er_catV (ev_var rfl) (hR.ex e1) (fun H2 e2 => er_one (ev_max2 ev_c (ev_op (ev_var rfl) ev_c rv_I0)) (fun _ _ => (ev_var rfl))) (fun s h => by rw [h]; show _ + 1 ≤ _; omega)).mono (fun r h => by obtain ⟨b, rfl, rfl⟩ := h; rw [List.length_append]; show _ + 1 ≤ _; omega)).ew) (ewa_cons (((er_catV (ev_var rfl) (hR.ex e1) (fun H2 e2 => er_one (ev_un ev_c ru_neg) (fun _ _ => (ev_var rfl))) (fun s h => by rw [h]; show _ + 1 ≤ _; omega)).mono (fun r h => by obtain ⟨b, rfl, rfl⟩ := h; rw [List.length_append]; show _ + 1 ≤ _; omega)).ew) (ewa_cons (((er_catV (ev_var rfl) (hR.ex e1) (fun H2 e2 => er_one ev_c (fun _ _ => (ev_var rfl))) (fun s h => by rw [h]; show _ + 1 ≤ _; omega)).mono (fun r h => by obtain ⟨b, rfl, rfl⟩ := h; rw [List.length_append]; show _ + 1 ≤ _; omega)).ew) ewa_nil))))) (by decide) fun rp H2 nrp e2 hrs => q rp H2 (fresh_back e1 nrp) (e1.trans e2) hrs
end
end My

set_option Elab.async false
set_option linter.all false
set_option maxRecDepth 100000
set_option maxHeartbeats 4000000
namespace My
open PySem PySem.Spec PyProof.Rows L2 Evl
open SX (S S_len S_cat S_beq S_beq_eq S_inj S_tl)
abbrev rListOf (K : PySem.W.Frag) : List V → Hp → VK → Prop := fun xs H Q => ∃ p ys, xs = [.ref p] ∧ (SqL K H p ys ∨ SqT K H p ys) ∧ ∀ l, H l = none → Q (.ref l) (upd H l (.lst ys))
abbrev rTupOf (K : PySem.W.Frag) : List V → Hp → VK → Prop := fun xs H Q => ∃ p ys, xs = [.ref p] ∧ ((SqL K H p ys ∧ ∀ l, H l = none → Q (.ref l) (upd H l (.tup ys))) ∨ (SqT K H p ys ∧ Q (.ref p) H))
theorem at_dI {rs : List Int} {i : Int} {j : Nat} (e : i = (j : Int)) (h : j < rs.length) : atI (rs.map V.int) i = some (.int (rs.getD j 0)) := by
  rw [e]
  exact at_d h
/-- [list(part) for part in row] -/
theorem el_parts {K : PySem.W.Frag} {σ : L2.St} {H : Hp} {tl : TE} {p : Addr} {row : Parts} {j : Nat} (h : Ev tl σ H (.ref p)) (hR : RowT H p row) (hz : row.length ≤ 40000) (hw : ∀ x, wipe ((wipe σ [j]).set j (some x)) [j] = wipe σ [j]) (hj : ∀ x, ((wipe σ [j]).set j (some x))[j]? = some (some x))
    (H1 : Hp) (e1 : Ex H H1) (Q : VK) (q : ∀ D H2, H1 D = none → Ex H1 H2 → RowL H2 D row → Q (.ref D) H2) : tLc (iList K tl) (gName j) tYes (tCB (rListOf K) (tCons (tVar j) tNil)) [j] σ H1 Q := h H1 e1 _ fun H2 e2 => by
  obtain ⟨ps, hp, hg⟩ := (hR.ex (e1.trans e2)).pl
  have hl := hg.len
  refine ⟨p, rfl, ⟨ps.map V.ref, sq_of hp⟩, fun Dl hD => lc_list (K := K) (xs := ps.map V.ref) (fun i H' => ∃ qs : List Addr, Ex H2 H' ∧ H' Dl = some (.lst (qs.map V.ref)) ∧ Pl .lst H' qs (row.take i)) ⟨[], Ex.new hD, upd_same, trivial⟩ (fun i H' _ ⟨qs, e, _⟩ => sq_of (e _ _ hp)) (fun i x H' hx ⟨qs, e, hDl, hq⟩ => ?_) (fun H' ⟨qs, e, hDl, hq⟩ => ?_)⟩
  · obtain ⟨rfl, hi0⟩ := ref_at hx
    have hi : i < row.length := by omega
    have hpi := e _ _ (hg.get i hi)
    refine ⟨hw _, show tCB (rListOf K) (tCons (tVar j) tNil) ((wipe σ [j]).set j (some (.ref (ps.getD i 0)))) H' (fun y H4 => ∃ acc, H4 Dl = some (.lst acc) ∧ acc.length < sizeLine ∧ ∃ qs : List Addr, Ex H2 (upd H4 Dl (.lst (acc ++ [y]))) ∧ (upd H4 Dl (.lst (acc ++ [y]))) Dl = some (.lst (qs.map V.ref)) ∧ Pl .lst (upd H4 Dl (.lst (acc ++ [y]))) qs (row.take (i + 1))) from ⟨_, hj _, ps.getD i 0, pV (row.getD i (0, 0)), rfl, Or.inr (st_of hpi), fun l hl2 => ⟨qs.map V.ref, (Ex.new hl2) _ _ hDl, ?_, qs ++ [l], ?_, ?_, ?_⟩⟩⟩
    · rw [List.length_map, hq.len, List.length_take]
      exact sz_lt (by omega)
    · exact Ex.mut (e.trans (Ex.new hl2)) hD
    · rw [List.map_append]
      exact upd_same
    · have hne : l ≠ Dl := (ne_of_none hDl hl2).symm
      rw [List.take_succ_eq_append_getElem hi]
      refine Pl.app ?_ ⟨?_, trivial⟩
      · have key : ∀ {qs : List Addr} {r : Parts}, Pl .lst H' qs r → (∀ k, k < r.length → qs.getD k 0 ≠ Dl) → Pl .lst (upd (upd H' l (.lst (pV (row.getD i (0, 0))))) Dl (.lst (qs.map V.ref ++ [.ref l]))) qs r := by
          intro qs r hP hn
          refine Pl.of hP.len fun k hk => ?_
          rw [upd_ne (hn k hk)]
          exact (Ex.new hl2) _ _ (hP.get k hk)
        exact key hq (fun k hk c => by
          have a := hq.get k hk
          rw [c] at a
          rw [hDl] at a
          have b := HO.lst.inj (Option.some.inj a)
          have b0 := congrArg (fun l : List V => l.head?) b
          cases qs with
          | nil => cases b0
          | cons q0 qs => cases b0)
      · rw [upd_ne hne, List.getD_eq_getElem?_getD, List.getElem?_eq_getElem hi]
        exact upd_same
  · have e0 : (ps.map V.ref).length = row.length := by rw [List.length_map, hl]
    rw [e0, List.take_length] at hq
    exact q Dl H' (fresh_back e2 hD) (e2.trans e) (Row.of hDl hq)

theorem q_parts {K : PySem.W.Frag} {σ : L2.St} {H : Hp} {tl : TE} {p : Addr} {row : Parts} {i j : Nat} {tz : TS} {D : Ends} (h : Ev tl σ H (.ref p)) (hR : RowT H p row) (hz : row.length ≤ 40000) (hw : ∀ x, wipe ((wipe σ [j]).set j (some x)) [j] = wipe σ [j]) (hj : ∀ x, ((wipe σ [j]).set j (some x))[j]? = some (some x))
    (q : ∀ p2 H2, H p2 = none → Ex H H2 → RowL H2 p2 row → tz D (σ.set i (some (.ref p2))) H2) : tSeq (tAsg (tLc (iList K tl) (gName j) tYes (tCB (rListOf K) (tCons (tVar j) tNil)) [j]) (gName i)) tz D σ H := el_parts h hR hz hw hj H (Ex.refl H) (fun v H2 => tz D (σ.set i (some v)) H2) q
theorem RowL.dp {K : PySem.W.Frag} {H : Hp} {p : Addr} {row : Parts} (h : RowL H p row) : Dp K H (.ref p) (.list (row.map fun q => .list [.int q.1, .int q.2])) := by
  obtain ⟨ps, hp, hg⟩ := h.pl
  refine Dp.lst (sq_of hp) ?_
  have key : ∀ {ps : List Addr} {r : Parts}, Pl .lst H ps r → DpAll K H (ps.map V.ref) (r.map fun q => .list [.int q.1, .int q.2]) := by
    intro ps
    induction ps with
    | nil => intro r h; match r, h with | [], _ => exact DpAll.nil
    | cons a as ih => intro r h; match r, h with | q :: r, h => exact DpAll.cons (Dp.lst (sq_of h.1) (DpAll.cons (Dp.int _) (DpAll.cons (Dp.int _) DpAll.nil))) (ih h.2)
  exact key hg
theorem canLay_row (row : Parts) : PyData.canLay0 (.list (row.map fun q => .list [.int q.1, .int q.2])) = true := by
  show PyData.canLayAll0 (row.map fun q => .list [.int q.1, .int q.2]) = true
  induction row with
  | nil => rfl
  | cons q r ih => show (_ && _) = true; rw [ih]; rfl
theorem depth_row (row : Parts) : PyData.depth (.list (row.map fun q => .list [.int q.1, .int q.2])) ≤ 64 := by
  have : PyData.depthAll (row.map fun q => .list [.int q.1, .int q.2]) ≤ 10 := by
    induction row with
    | nil => decide
    | cons q r ih =>
      simp only [List.map_cons, PyData.depthAll, PyData.depth] at ih ⊢
      omega
  simp only [PyData.depth]
  omega
theorem shaped_row (row : Parts) : SeqAt.shaped (.list (row.map fun q => .list [.int q.1, .int q.2])) = true := by
  unfold SeqAt.shaped
  rw [canLay_row, decide_eq_true (depth_row row)]
  rfl
section
variable {P : Program} {w : World} {K : PySem.W.Frag} {mg : Str → Option Value} {base : Heap}
abbrev s_law_any_row : Stmt := top 16
abbrev N_law_any_row : List Str := ["line", "row", "made", "reached", "k", "kind", "start", "stop"]
theorem sc_law_any_row : FnScope N_law_any_row ["line", "row"] (defScope s_law_any_row) := ⟨rfl, rfl, rfl, by decide +kernel, rfl, by decide +kernel, by decide +kernel⟩
def spAr (K : PySem.W.Frag) : Sp := fun vs H Q _ => ∃ (line : List Nat) (p : Addr) (rs : List Int), vs = [.str (S line), .ref p] ∧ line.length ≤ 1000 ∧ SqL K H p (rs.map V.int) ∧ rs.length = 1203 ∧ (0 ≤ rs.getD 0 0 ∧ rs.getD 0 0 < 3) ∧ RetR (fun row => row.length ≤ 401) H Q
theorem ok_law_any_row (T : TT mg) (F : At K mg "_law_any_row" s_law_any_row) : Dn P w K mg base 1 "_law_any_row" s_law_any_row ["line", "row"] (spAr K) := by
  refine dn_ok F sc_law_any_row (fun _ _ _ _ _ _ us hl => match us, hl with | [_, _], _ => rfl) (fun vs H Q E h => ?_) (fun f cdv A outer t H vs Q E hr h => ?_)
  · obtain ⟨line, p, rs, rfl, _⟩ := h; rfl
  · obtain ⟨line, p, rs, rfl, hz, hS, hlen, ⟨r0, r3⟩, q⟩ := h
    refine ⟨_, (pss_cons (ps_set (i := 2) sc_law_any_row.nd rfl (Or.inl rfl) (pe_lst pa_nil))
      (pss_cons (ps_set (i := 3) sc_law_any_row.nd rfl (Or.inl rfl) pe_int)
      (pss_cons (ps_for PassesOwn.never rfl (pi_range1 (by rfl) T.range (pa_cons (pe_op op_mod (pe_callTy call_int1 (by rfl) T.int_ (by decide +kernel) (pa_cons (pe_ix ix_list (pv 1) pe_int (fun _ _ => rfl)) pa_nil)) (pe_ix ix_list (pe_lst (pa_cons pe_int (pa_cons pe_int (pa_cons pe_int pa_nil)))) (pe_ix ix_list (pv 1) pe_int (fun _ _ => rfl)) (fun _ _ => rfl))) pa_nil)) (pg_name (i := 4) sc_law_any_row.nd rfl (Or.inl rfl))
        (pss_cons (ps_set (i := 5) sc_law_any_row.nd rfl (Or.inl rfl) (pe_ix ix_list (pv 1) (pe_op op_add pe_int (pe_op op_mul pe_int (pv 4))) (fun _ _ => rfl)))
          (pss_cut (ps_if (pt_cmpR op_gt (pe_ix ix_list (pv 1) pe_int (fun _ _ => rfl)) pe_int (nomark _)) (pss_one (ps_set (i := 5) sc_law_any_row.nd rfl (Or.inl rfl) (pe_op op_mod (pe_callTy call_int1 (by rfl) T.int_ (by decide +kernel) (pa_cons (pv 5) pa_nil)) pe_int))) pss_nil)
          (pss_cons (ps_set (i := 6) sc_law_any_row.nd rfl (Or.inl rfl) (pe_op op_sub (pe_ix ix_list (pv 1) (pe_op op_add pe_int (pe_op op_mul pe_int (pv 4))) (fun _ _ => rfl)) pe_int))
          (pss_cons (ps_set (i := 7) sc_law_any_row.nd rfl (Or.inl rfl) (pe_op op_sub (pe_ix ix_list (pv 1) (pe_op op_add pe_int (pe_op op_mul pe_int (pv 4))) (fun _ _ => rfl)) pe_int))
          (pss_cut (ps_if (pt_cmpR op_lt (pv 5) pe_int (nomark _)) (pss_cons (ps_set (i := 6) sc_law_any_row.nd rfl (Or.inl rfl) (pe_op op_add (pv 3) (pe_ix ix_list (pe_lst (pa_cons pe_int (pa_cons pe_int (pa_cons pe_int (pa_cons pe_int (pa_cons pe_int (pa_cons pe_int (pa_cons pe_int (pa_cons pe_int (pa_cons pe_int (pa_cons pe_int (pa_cons pe_int (pa_cons pe_int pa_nil))))))))))))) (pe_op op_mod (pe_callTy call_int1 (by rfl) T.int_ (by decide +kernel) (pa_cons (pv 5) pa_nil)) pe_int) (fun _ _ => rfl))))
            (pss_one (ps_set (i := 7) sc_law_any_row.nd rfl (Or.inl rfl) (pe_op op_add (pe_op op_add (pv 6) pe_int) (pe_op op_mod (pe_callTy call_int1 (by rfl) T.int_ (by decide +kernel) (pa_cons (pe_ix ix_list (pv 1) (pe_op op_add pe_int (pe_op op_mul pe_int (pv 4))) (fun _ _ => rfl)) pa_nil)) pe_int))))) (pss_one (ps_if (pt_cmpR op_lt (pv 5) pe_int (nomark _)) (pss_cons (ps_set (i := 6) sc_law_any_row.nd rfl (Or.inl rfl) (pe_op op_add (pe_op op_sub (pv 3) pe_int) (pe_op op_mod (pe_callTy call_int1 (by rfl) T.int_ (by decide +kernel) (pa_cons (pe_ix ix_list (pv 1) (pe_op op_add pe_int (pe_op op_mul pe_int (pv 4))) (fun _ _ => rfl)) pa_nil)) pe_int)))
              (pss_one (ps_set (i := 7) sc_law_any_row.nd rfl (Or.inl rfl) (pe_op op_add (pe_op op_sub (pv 6) pe_int) (pe_op op_mod (pe_callTy call_int1 (by rfl) T.int_ (by decide +kernel) (pa_cons (pe_ix ix_list (pv 1) (pe_op op_add pe_int (pe_op op_mul pe_int (pv 4))) (fun _ _ => rfl)) pa_nil)) pe_int))))) pss_nil)))
          (pss_cons (ps_if (PW.pt (pw_and (pt_cmpR op_lt (pv 5) pe_int (nomark _)) (pw_and (pt_cmpR op_gt (pv 7) (pe_callB call_len_str (by rfl) T.len boot_len (pa_cons (pv 0) pa_nil)) (nomark _)) (pw_and1 (pt_cmpR op_ne (pe_ix ix_list (pv 1) pe_int (fun _ _ => rfl)) pe_int (nomark _)))))) (pss_one ps_break) pss_nil)
          (pss_cons (ps_expr (pe_bm PySem.F.plainAttrs_list PySem.F.slot_list_append PySem.F.type_list_append mt_append (pv 2) (pa_cons (pe_tup (pa_cons (pv 6) (pa_cons (pv 7) pa_nil))) pa_nil)))
          (pss_one (ps_set (i := 3) sc_law_any_row.nd rfl (Or.inl rfl) (pv 7)))))))))))
      (pss_one (ps_ret (pv 2)))))), ?_⟩
    refine q_asgL (el_lst ea_nil (by decide)) fun mp H1 nm e1 hm => ?_
    refine q_asg ev_c fun H2 e2 => ?_
    have e12 := e1.trans e2
    obtain ⟨dv, hdv, d1, d2⟩ := at_ints (ns := [4, 24, 401]) (i := rs.getD 0 0) (fun z => 1 ≤ z ∧ z ≤ 401) (by decide) r0 (by show rs.getD 0 0 < 3; omega)
    have m0 := Int.emod_nonneg (rs.getD 1 0) (show dv ≠ 0 by omega)
    have m1 := Int.emod_lt_of_pos (rs.getD 1 0) (show 0 < dv by omega)
    refine q_forR1 (ea_cons (ev_op (ev_int (ev_op (ev_var rfl) ev_c (rv_ixL (K := K) (ex_l e12 hS) (at_d (i := 1) (by omega))))) (ev_ixNew (K := K) (el_lst (ea_cons ev_c (ea_cons ev_c (ea_cons ev_c ea_nil))) (by show 3 ≤ 100000; decide)) (fun H3 e3 => ev_op (ev_var rfl) ev_c (rv_ixL (K := K) (ex_l (e12.trans e3) hS) (at_d (i := 0) (by omega)))) hdv) (rv_I (show (0 : Int) < dv by omega))) ea_nil) ⟨m0, by omega⟩
      (fun i σ' H' => ∃ (fs : Parts) (ps : List Addr) (re : Int) (x y z u : Option V), σ' = [some (.str (S line)), some (.ref p), some (.ref mp), some (.int re), x, y, z, u] ∧ Ex H H' ∧ RowX H' mp fs ps ∧ fs.length ≤ i)
      (fun H3 e3 => ⟨[], [], 0, none, none, none, none, rfl, e12.trans e3, ⟨e3 _ _ (e2 _ _ hm), rfl, fun k hk => absurd hk (Nat.not_lt_zero k)⟩, Nat.le_refl 0⟩) ?_ ?_
    · rintro i σ' H' hi ⟨fs, ps, re, x, y, z, u, rfl, e, hR, hfl⟩
      have hi4 : i ≤ 399 := by omega
      refine q_asg (ev_op (ev_var rfl) (ev_op ev_c (ev_op ev_c (ev_var rfl) (rv_I (Or.inl (by decide)))) rv_I0) (rv_ixL (K := K) (ex_l e hS) (at_dI (j := 3 + 3 * i) (by omega) (by omega)))) fun H3 e3 => ?_
      have eA := e.trans e3
      refine q_cutIf (fun σ2 H4 => ∃ kd : Int, σ2 = [some (.str (S line)), some (.ref p), some (.ref mp), some (.int re), some (.int (i : Int)), some (.int kd), z, u] ∧ Ex H' H4) (et_test (ev_op (ev_op (ev_var rfl) ev_c (rv_ixL (K := K) (ex_l eA hS) (at_d (i := 2) (by omega)))) ev_c rv_I0)) (fun _ H4 e4 => ?_) (fun H4 e4 => ⟨_, rfl, e3.trans e4⟩) ?_
      · exact s_asg (ev_op (ev_int (ev_var rfl)) ev_c (rv_I (by decide))) fun H5 e5 => ⟨_, rfl, (e3.trans e4).trans e5⟩
      rintro σ2 H4 ⟨kd, rfl, e4⟩
      have eB := e.trans e4
      refine q_asg (ev_op (ev_op (ev_var rfl) (ev_op ev_c (ev_op ev_c (ev_var rfl) (rv_I (Or.inl (by decide)))) rv_I0) (rv_ixL (K := K) (ex_l eB hS) (at_dI (j := 4 + 3 * i) (by omega) (by omega)))) ev_c rv_I0) fun H5 e5 => ?_
      refine q_asg (ev_op (ev_op (ev_var rfl) (ev_op ev_c (ev_op ev_c (ev_var rfl) (rv_I (Or.inl (by decide)))) rv_I0) (rv_ixL (K := K) (ex_l (eB.trans e5) hS) (at_dI (j := 5 + 3 * i) (by omega) (by omega)))) ev_c rv_I0) fun H6 e6 => ?_
      have e46 := (e4.trans e5).trans e6
      have eC := e.trans e46
      refine q_cut (M := fun σ2 H7 => ∃ kd st sp : Int, σ2 = [some (.str (S line)), some (.ref p), some (.ref mp), some (.int re), some (.int (i : Int)), some (.int kd), some (.int st), some (.int sp)] ∧ Ex H' H7) ?_ ?_
      · refine s_if (et_test (ev_op (ev_var rfl) ev_c rv_I0)) (fun _ H7 e7 => ?_) (fun _ H7 e7 => ?_)
        · obtain ⟨ad, had, _⟩ := at_ints (ns := [0, 0, 0, 0, 0, 0, 0, 0, 1, 1, 2, 5]) (i := kd % 12) (fun z => 0 ≤ z ∧ z ≤ 5) (by decide) (Int.emod_nonneg kd (by decide)) (by show kd % 12 < 12; exact Int.emod_lt_of_pos kd (by decide))
          refine q_asg (ev_op (ev_var rfl) (ev_ixNew (K := K) (el_lst (ea_cons ev_c (ea_cons ev_c (ea_cons ev_c (ea_cons ev_c (ea_cons ev_c (ea_cons ev_c (ea_cons ev_c (ea_cons ev_c (ea_cons ev_c (ea_cons ev_c (ea_cons ev_c (ea_cons ev_c ea_nil)))))))))))) (by show 12 ≤ 100000; decide)) (fun H8 e8 => ev_op (ev_int (ev_var rfl)) ev_c (rv_I (by decide))) had) rv_I0) fun H8 e8 => ?_
          exact s_asg (ev_op (ev_op (ev_var rfl) ev_c rv_I0) (ev_op (ev_int (ev_op (ev_var rfl) (ev_op ev_c (ev_op ev_c (ev_var rfl) (rv_I (Or.inl (by decide)))) rv_I0) (rv_ixL (K := K) (ex_l ((eC.trans e7).trans e8) hS) (at_dI (j := 5 + 3 * i) (by omega) (by omega))))) ev_c (rv_I (by decide))) rv_I0) fun H9 e9 => ⟨_, _, _, rfl, ((e46.trans e7).trans e8).trans e9⟩
        · refine s_when (et_test (ev_op (ev_var rfl) ev_c rv_I0)) (fun _ H8 e8 => ?_) (fun _ H8 e8 => ⟨_, _, _, rfl, (e46.trans e7).trans e8⟩)
          refine q_asg (ev_op (ev_op (ev_var rfl) ev_c rv_I0) (ev_op (ev_int (ev_op (ev_var rfl) (ev_op ev_c (ev_op ev_c (ev_var rfl) (rv_I (Or.inl (by decide)))) rv_I0) (rv_ixL (K := K) (ex_l ((eC.trans e7).trans e8) hS) (at_dI (j := 4 + 3 * i) (by omega) (by omega))))) ev_c (rv_I (by decide))) rv_I0) fun H9 e9 => ?_
          exact s_asg (ev_op (ev_op (ev_var rfl) ev_c rv_I0) (ev_op (ev_int (ev_op (ev_var rfl) (ev_op ev_c (ev_op ev_c (ev_var rfl) (rv_I (Or.inl (by decide)))) rv_I0) (rv_ixL (K := K) (ex_l (((eC.trans e7).trans e8).trans e9) hS) (at_dI (j := 5 + 3 * i) (by omega) (by omega))))) ev_c (rv_I (by decide))) rv_I0) fun H10 e10 => ⟨_, _, _, rfl, (((e46.trans e7).trans e8).trans e9).trans e10⟩
      rintro σ2 H7 ⟨kd, st, sp, rfl, e7⟩
      have eD := e.trans e7
      refine q_when (et_and (et_test (ev_op (ev_var rfl) ev_c rv_I0)) fun _ => et_and (et_test (ev_op (ev_var rfl) (ev_lenSS (ev_var rfl) (by omega)) rv_I0)) fun _ => et_test (ev_op (ev_op (ev_var rfl) ev_c (rv_ixL (K := K) (ex_l eD hS) (at_d (i := 2) (by omega)))) ev_c (rv_ne rfl))) (fun _ H8 e8 => ?_) (fun _ H8 e8 => ?_)
      · exact s_ret (ev_var rfl) fun H9 e9 => q mp fs H9 ((eD.trans e8).trans e9) (((hR.ex e7).ex e8).ex e9).row (by show fs.length ≤ 401; omega)
      refine q_appU (((hR.ex e7).ex e8).1) (ev_var rfl) (eu_tup (ea_cons (ev_var rfl) (ea_cons (ev_var rfl) ea_nil)) (by show 2 ≤ 100000; decide)) (by rw [List.length_map, hR.2.1]; omega) fun tp H9 _ e9 ht => ?_
      refine s_asg (ev_var rfl) fun H10 e10 => ⟨_, _, _, _, _, _, _, rfl, (Ex.mut ((eD.trans e8).trans e9) nm).trans e10, ((((hR.ex e7).ex e8).ex e9).app (pt := (st, sp)) ht).ex e10, by rw [List.length_append]; exact Nat.succ_le_succ hfl⟩
    · rintro σ' H' ⟨fs, ps, re, x, y, z, u, rfl, e, hR, hfl⟩
      exact s_ret (ev_var rfl) fun H9 e9 => q mp fs H9 (e.trans e9) (hR.ex e9).row (by show fs.length ≤ 401; omega)
theorem kd_un (D : Dn P w K mg base 1 "are_unlike" s_are_unlike ["text", "stretches"] spUn) : Kd P w K mg base 1 "are_unlike" 0 ["stretches", "text"] (fun _ zs => zs.reverse) spUn :=
  kd_of D 0 ["stretches", "text"] (fun _ ws => ws.reverse) (fun _ zs => zs.reverse) (fun _ _ _ _ _ _ us ws h1 h2 => match us, ws, h1, h2 with | [], [_, _], _, _ => rfl) (fun _ r => vals_rev r)
theorem kit_bool_bool {K : PySem.W.Frag} : PySem.W.kitOne K (.type "bool") (.type "bool") = some true := by rfl
theorem sv_un {line : List Nat} {p : Addr} {row : Parts} {H : Hp} (hz : line.length ≤ 100000) (hr : row.length ≤ 10000) (hR : RowL H p row ∨ RowU H p row) : SpV spUn [.str (S line), .ref p] H (.bl (goodF line row)) := fun H1 e Q q _ => ⟨line, p, row, rfl, hz, hr, hR.elim (fun h => Or.inl (h.ex e)) (fun h => Or.inr (h.ex e)), q⟩
theorem sv_rd {line : List Nat} {p : Addr} {row : Parts} {H : Hp} (hz : line.length ≤ 100000) (hr : row.length ≤ 10000) (hR : RowT H p row) : SpV spRd [.str (S line), .ref p] H (.bl (goodF line row)) := fun H1 e Q q _ => ⟨line, p, row, rfl, hz, hr, hR.ex e, q⟩
abbrev s_law_same : Stmt := top 18
abbrev N_law_same : List Str := ["line", "row", "due", "mine", "told", "other", "part"]
theorem sc_law_same : FnScope N_law_same ["line", "row"] (defScope s_law_same) := ⟨rfl, rfl, rfl, by decide +kernel, rfl, by decide +kernel, by decide +kernel⟩
def spSm : Sp := fun vs H Q _ => ∃ (line : List Nat) (p : Addr) (row : Parts), vs = [.str (S line), .ref p] ∧ line.length ≤ 100000 ∧ row.length ≤ 10000 ∧ RowT H p row ∧ RetV (.bl true) H Q
theorem ok_law_same (T : TT mg) (F : At K mg "_law_same" s_law_same) (D_are_unlike : Dn P w K mg base 1 "are_unlike" s_are_unlike ["text", "stretches"] spUn) (D_are_unlike_stretches_text : Kd P w K mg base 1 "are_unlike" 0 ["stretches", "text"] (fun _ zs => zs.reverse) spUn) (D_law_reading : Dn P w K mg base 1 "_law_reading" s_law_reading ["line", "row"] spRd) :
    Dn P w K mg base 2 "_law_same" s_law_same ["line", "row"] spSm := by
  refine dn_ok F sc_law_same (fun _ _ _ _ _ _ us hl => match us, hl with | [_, _], _ => rfl) (fun vs H Q E h => ?_) (fun f cdv A outer t H vs Q E hr h => ?_)
  · obtain ⟨line, p, row, rfl, _⟩ := h; rfl
  · obtain ⟨line, p, row, rfl, hz, hrw, hR, q⟩ := h
    refine ⟨_, (pss_cons (ps_set (i := 2) sc_law_same.nd rfl (Or.inl rfl) (pe_dn D_law_reading hr (by decide) rfl (pa_cons (pv 0) (pa_cons (pv 1) pa_nil))))
      (pss_cons (ps_setLc (te := tCB (rListOf K) (tCons (tVar 6) tNil)) (i := 3) (own := [("part", 6)]) (g := gName 6) (tt := tYes) rfl sc_law_same.nd rfl rfl (sw_true rfl rfl rfl (by decide +kernel)) (pi_list (pv 1)) (blkOk_by (own := [("part", 6)]) (N := N_law_same) (sc := defScope s_law_same) (by decide +kernel)) (fun _ _ _ _ _ => pg_name (i := 6) sc_law_same.nd rfl (Or.inl rfl)) (fun _ _ _ _ _ => pts_nil) (fun _ _ _ _ _ => (pe_callTy call_list_of (by rfl) T.list_ (by decide +kernel) (pa_cons (pv 6) pa_nil))))
      (pss_cons (ps_set (i := 4) sc_law_same.nd rfl (Or.inl rfl) (pe_dn D_are_unlike hr (by decide) rfl (pa_cons (pv 0) (pa_cons (pv 3) pa_nil))))
      (pss_cons (ps_if (PW.pt (pw_or (pt_not (pt_val (pe_callB call_isi (by rfl) T.isinstance (by decide +kernel) (pa_cons (pv 4) (pa_cons (pe_tyn "bool" rfl T.bool_ (by decide +kernel)) pa_nil))))) (pw_or (pt_cmpR op_ne (pv 4) (pv 2) (nomark _)) (pw_or1 (pt_cmpR (op_neD hr.units) (pv 3) (pe_lc (te := tCB (rListOf K) (tCons (tVar 6) tNil)) (own := [("part", 6)]) (g := gName 6) (tt := tYes) rfl sc_law_same.nd (pi_list (pv 1)) (blkOk_by (own := [("part", 6)]) (N := N_law_same) (sc := defScope s_law_same) (by decide +kernel)) (fun _ _ _ _ _ => pg_name (i := 6) sc_law_same.nd rfl (Or.inl rfl)) (fun _ _ _ _ _ => pts_nil) (fun _ _ _ _ _ => (pe_callTy call_list_of (by rfl) T.list_ (by decide +kernel) (pa_cons (pv 6) pa_nil)))) (nomark _)))))) (pss_one (ps_ret pe_bl)) pss_nil)
      (pss_cons (ps_set (i := 5) sc_law_same.nd rfl (Or.inl rfl) (pe_kd D_are_unlike_stretches_text hr (by decide) rfl (pk_cons (pe_callTy call_tuple_of (by rfl) T.tuple_ (by decide +kernel) (pa_cons (pv 1) pa_nil)) (pk_cons (pv 0) pk_nil))))
      (pss_one (ps_ret (pe_and (pe_callB call_isi (by rfl) T.isinstance (by decide +kernel) (pa_cons (pv 5) (pa_cons (pe_tyn "bool" rfl T.bool_ (by decide +kernel)) pa_nil))) (pe_one (pe_cmpR op_eq (pv 5) (pv 2) (nomark _))))))))))), ?_⟩
    refine q_asg (ev_call (ea_cons (ev_var rfl) (ea_cons (ev_var rfl) ea_nil)) (sv_rd hz hrw hR)) fun H1 e1 => ?_
    refine q_parts (K := K) (ev_var rfl) (hR.ex e1) (by omega) (fun _ => rfl) (fun _ => rfl) fun mp H2 nmp e2 hL => ?_
    have e12 := e1.trans e2
    refine q_asg (ev_call (ea_cons (ev_var rfl) (ea_cons (ev_var rfl) ea_nil)) (sv_un hz hrw (Or.inl hL))) fun H3 e3 => ?_
    have e13 := e12.trans e3
    refine q_when (b := !true || (!decide (V.bl (goodF line row) = V.bl (goodF line row)) || false)) (et_or (et_not (et_B (ev_isi (ev_var rfl) ev_c (ClsV.ty "bool") (fun _ _ => .base (.bl _)) kit_bool_bool))) fun _ => et_or (et_test (ev_op (ev_var rfl) (ev_var rfl) (rv_ne rfl))) fun _ => et_test (fun H4 e4 Q4 q4 => ?_)) (fun hb H4 e4 => ?_) (fun hb H4 e4 => ?_)
    · refine ⟨.ref mp, rfl, ?_⟩
      refine el_parts (K := K) (j := 6) (ev_var rfl) (hR.ex e13) (by omega) (fun _ => rfl) (fun _ => rfl) H4 e4 _ fun mp2 H5 n2 e5 hL5 => ?_
      refine ⟨_, _, RowL.dp ((hL.ex e3).ex (e4.trans e5)), RowL.dp hL5, shaped_row row, shaped_row row, ?_⟩
      rw [SeqAt.eqv_refl _ (canLay_row row)]
      exact q4 H5 e5
    · simp at hb
    have e14 := e13.trans e4
    refine q_asg (v := .bl (goodF line row)) (fun H5 e5 Q5 q5 => ?_) fun H5 e5 => ?_
    · obtain ⟨ps, hp, hg⟩ := (hR.ex (e14.trans e5)).pl
      refine ⟨.ref p, rfl, p, _, rfl, Or.inl ⟨sq_of hp, fun l hl => ⟨.str (S line), rfl, rfl, rfl, line, l, row, rfl, hz, hrw, Or.inr (Row.of upd_same (Pl.ex (Ex.new hl) hg)), fun H6 e6 => q5 H6 ((Ex.new hl).trans e6)⟩⟩⟩
    refine s_ret (v := .bl (true && true)) (ev_andV (ev_isi (ev_var rfl) ev_c (ClsV.ty "bool") (fun _ _ => .base (.bl _)) kit_bool_bool) fun _ => ev_is (ev_op (ev_var rfl) (ev_var rfl) (rv_eq rfl)) (by rw [decide_eq_true rfl])) fun H6 e6 => q H6 ((e14.trans e5).trans e6)
theorem sv_sm {line : List Nat} {p : Addr} {row : Parts} {H : Hp} (hz : line.length ≤ 100000) (hr : row.length ≤ 10000) (hR : RowT H p row) : SpV spSm [.str (S line), .ref p] H (.bl true) := fun H1 e Q q _ => ⟨line, p, row, rfl, hz, hr, hR.ex e, q⟩
end
end My

set_option Elab.async false
set_option linter.all false
set_option maxRecDepth 100000
set_option maxHeartbeats 4000000
namespace My
open PySem PySem.Spec PyProof.Rows L2 Evl
open SX (S S_len S_cat S_beq S_beq_eq S_inj S_tl)
section
variable {K : PySem.W.Frag} {σ : L2.St} {H : Hp} {ta tb tc te tl : TE} {x y z v : V} {D : Ends} {tu tz : TS} {G : Parts → Prop} {sp : Sp} {E : XK} {to th : TO}
theorem ev_call2R (ha : Ev ta σ H x) (hb : ER tb σ H G) (hs : ∀ p H1 row, Ex H H1 → RowT H1 p row → G row → SpV sp [x, .ref p] H1 z) : Ev (tCall sp [] E (tCons ta (tCons tb tNil))) σ H z := fun H0 e0 Q q =>
  ha H0 e0 _ fun H1 e1 => hb H1 (e0.trans e1) _ fun p H2 row _ e2 hR g => hs p H2 row ((e0.trans e1).trans e2) hR g H2 (Ex.refl H2) Q (fun H3 e3 => q H3 ((e1.trans e2).trans e3)) E
theorem ev_call2W (ha : Ev ta σ H x) (hb : EW tb σ H G) (hs : ∀ p H1 row, Ex H H1 → RowT H1 p row → G row → SpV sp [x, .ref p] H1 z) : Ev (tCall sp [] E (tCons ta (tCons tb tNil))) σ H z := fun H0 e0 Q q =>
  ha H0 e0 _ fun H1 e1 => hb H1 (e0.trans e1) _ fun p H2 row e2 hR g => hs p H2 row ((e0.trans e1).trans e2) hR g H2 (Ex.refl H2) Q (fun H3 e3 => q H3 ((e1.trans e2).trans e3)) E
theorem q_call3L {i : Nat} {xs : List V} (ha : Ev ta σ H x) (hb : EvL tb σ H xs) (hc : ∀ H1, Ex H H1 → Ev tc σ H1 y) (hs : ∀ p H1, H1 p = some (.lst xs) → Ex H H1 → sp [x, .ref p, y] H1 (fun v H2 => tz D (σ.set i (some v)) H2) E) : tSeq (tAsg (tCall sp [] E (tCons ta (tCons tb (tCons tc tNil)))) (gName i)) tz D σ H :=
  ha H (Ex.refl H) _ fun H1 e1 => hb H1 e1 _ fun p H2 _ e2 h2 => hc H2 (e1.trans e2) H2 (Ex.refl H2) _ fun H3 e3 => hs p H3 (e3 _ _ h2) ((e1.trans e2).trans e3)
theorem s_callL {i : Nat} {xs : List V} (hb : EvL tb σ H xs) (hs : ∀ p H1, H1 p = some (.lst xs) → Ex H H1 → sp [.ref p] H1 (fun v H2 => D.nx (σ.set i (some v)) H2) E) : tAsg (tCall sp [] E (tCons tb tNil)) (gName i) D σ H :=
  hb H (Ex.refl H) _ fun p H2 _ e2 h2 => hs p H2 h2 e2
theorem el_slN {xs : List V} {lo hi : Option Int} (h : EvL te σ H xs) (h1 : ∀ H1, Ex H H1 → EvO to σ H1 lo) (h2 : ∀ H1, Ex H H1 → EvO th σ H1 hi) : EvL (tSl (rSlL K) te to th) σ H (cutV xs lo hi) := fun H0 e0 Q q =>
  h H0 e0 _ fun a H1 na e1 ha => h1 H1 (e0.trans e1) H1 (Ex.refl H1) _ fun H2 e2 => h2 H2 ((e0.trans e1).trans e2) H2 (Ex.refl H2) _ fun H3 e3 => ⟨a, xs, rfl, sq_of (e3 _ _ (e2 _ _ ha)), fun p hp => q p _ (fresh_back ((e1.trans e2).trans e3) hp) (((e1.trans e2).trans e3).trans (Ex.new hp)) upd_same⟩
/-- [f(part) for part in row] -/
theorem q_mapParts {i j : Nat} {B : Parts} (f : Int × Int → Int × Int) (h : ER tl σ H (fun r => r = B)) (hz : B.length ≤ 40000) (hw : ∀ x, wipe ((wipe σ [j]).set j (some x)) [j] = wipe σ [j])
    (he : ∀ (q : Addr) (pt : Int × Int) H1, Ex H H1 → H1 q = some (.tup (pV pt)) → EvU te ((wipe σ [j]).set j (some (.ref q))) H1 (pV (f pt)))
    (k : ∀ p2 H2, H p2 = none → Ex H H2 → RowT H2 p2 (B.map f) → tz D (σ.set i (some (.ref p2))) H2) : tSeq (tAsg (tLc (iList K tl) (gName j) tYes te [j]) (gName i)) tz D σ H := h H (Ex.refl H) _ fun p H2 row np e2 hR hB => by
  subst hB
  obtain ⟨ps, hp, hg⟩ := hR.pl
  have hl := hg.len
  refine ⟨p, rfl, ⟨ps.map V.ref, sq_of hp⟩, fun Dl hD => lc_list (K := K) (xs := ps.map V.ref) (fun i H' => ∃ qs : List Addr, Ex H2 H' ∧ H' Dl = some (.lst (qs.map V.ref)) ∧ Pl .tup H' qs ((row.map f).take i)) ⟨[], Ex.new hD, upd_same, trivial⟩ (fun i H' _ ⟨qs, e, _⟩ => sq_of (e _ _ hp)) (fun i x H' hx ⟨qs, e, hDl, hq⟩ => ?_) (fun H' ⟨qs, e, hDl, hq⟩ => ?_)⟩
  · obtain ⟨rfl, hi0⟩ := ref_at hx
    have hi : i < row.length := by omega
    have hpi := e _ _ (hg.get i hi)
    refine ⟨hw _, show te ((wipe σ [j]).set j (some (.ref (ps.getD i 0)))) H' (fun y H4 => ∃ acc, H4 Dl = some (.lst acc) ∧ acc.length < sizeLine ∧ ∃ qs : List Addr, Ex H2 (upd H4 Dl (.lst (acc ++ [y]))) ∧ (upd H4 Dl (.lst (acc ++ [y]))) Dl = some (.lst (qs.map V.ref)) ∧ Pl .tup (upd H4 Dl (.lst (acc ++ [y]))) qs ((row.map f).take (i + 1))) from
      he _ _ H' (e2.trans e) hpi H' (Ex.refl H') _ fun tp H4 nt e4 ht => ⟨qs.map V.ref, e4 _ _ hDl, ?_, qs ++ [tp], ?_, ?_, ?_⟩⟩
    · rw [List.length_map, hq.len, List.length_take]
      exact sz_lt (by omega)
    · exact Ex.mut (e.trans e4) hD
    · rw [List.map_append]
      exact upd_same
    · have hi2 : i < (row.map f).length := by rw [List.length_map]; exact hi
      rw [List.take_succ_eq_append_getElem hi2]
      have keep : ∀ {q : Addr} {xs : List V}, H4 q = some (.tup xs) → (upd H4 Dl (.lst (qs.map V.ref ++ [.ref tp]))) q = some (.tup xs) := fun {q xs} hq1 => by
        rw [upd_ne (ne_of hq1 (e4 _ _ hDl) (by intro z; cases z))]
        exact hq1
      refine Pl.app (Pl.of hq.len fun k hk => keep (e4 _ _ (hq.get k hk))) ⟨?_, trivial⟩
      refine keep ?_
      rw [ht, List.getElem_map, List.getD_eq_getElem?_getD, List.getElem?_eq_getElem hi]
      rfl
  · have e0 : (ps.map V.ref).length = (row.map f).length := by rw [List.length_map, List.length_map, hl]
    rw [e0, List.take_length] at hq
    exact k Dl H' (fresh_back e2 hD) (e2.trans e) (Row.of hDl hq)
/-! ### loops over rows -/
def EG (tl : TE) (σ : L2.St) (H : Hp) (G : Parts → Prop) : Prop := ∀ Q : VK, (∀ rp n H2, Ex H H2 → RowsG H2 rp n G → Q (.ref rp) H2) → tl σ H Q
theorem s_forRows {j : Nat} (h : EG tl σ H G) (Sx : L2.St → Prop) (h0 : Sx σ)
    (hs : ∀ Hb, Ex H Hb → ∀ q row σ' H', Sx σ' → Ex Hb H' → RowT H' q row → G row → tu { D with nx := fun σ2 H2 => Sx σ2 ∧ Ex Hb H2, ct := fun σ2 H2 => Sx σ2 ∧ Ex Hb H2, bk := D.nx } (σ'.set j (some (.ref q))) H')
    (hd : ∀ σ' H', Sx σ' → Ex H H' → D.nx σ' H') : tFor (iList K tl) (gName j) tu D σ H := h _ fun rp n Hb eb hG => by
  obtain ⟨qs, h1, h2, h3⟩ := hG
  refine ⟨rp, rfl, ⟨qs.map V.ref, sq_of h1⟩, for_list (K := K) (xs := qs.map V.ref) (fun i σ' H' => Sx σ' ∧ Ex Hb H') ⟨h0, Ex.refl Hb⟩ (fun i σ' H' _ p => sq_of (p.2 _ _ h1)) (fun i x σ' H' hx p => ?_) (fun σ' H' p => hd σ' H' p.1 (eb.trans p.2))⟩
  obtain ⟨rfl, hi⟩ := ref_at hx
  obtain ⟨_, row, hR, hg⟩ := h3 (qs.getD i 0) (by rw [List.getD_eq_getElem?_getD, List.getElem?_eq_getElem hi]; exact List.getElem_mem hi)
  exact hs Hb eb _ row σ' H' p.1 p.2 (hR.ex p.2) hg
theorem q_forRows {j : Nat} (h : EG tl σ H G) (Sx : L2.St → Prop) (h0 : Sx σ)
    (hs : ∀ Hb, Ex H Hb → ∀ q row σ' H', Sx σ' → Ex Hb H' → RowT H' q row → G row → tu { D with nx := fun σ2 H2 => Sx σ2 ∧ Ex Hb H2, ct := fun σ2 H2 => Sx σ2 ∧ Ex Hb H2, bk := tz D } (σ'.set j (some (.ref q))) H')
    (hd : ∀ σ' H', Sx σ' → Ex H H' → tz D σ' H') : tSeq (tFor (iList K tl) (gName j) tu) tz D σ H := s_forRows (D := { D with nx := tz D }) h Sx h0 hs hd
theorem row_ne {H : Hp} {rp p : Addr} {n : Nat} {row : Parts} (h : RowsG H rp n G) (hn : 0 < n) (hR : RowT H p row) : p ≠ rp := by
  rintro rfl
  obtain ⟨qs, h1, h2, h3⟩ := h
  obtain ⟨ps, hp, hg⟩ := hR.pl
  rw [h1] at hp
  have e := HO.lst.inj (Option.some.inj hp)
  have hl := hg.len
  cases qs with
  | nil => simp at h2; omega
  | cons q qs =>
    cases ps with
    | nil => cases e
    | cons p2 ps =>
      cases row with
      | nil => cases hl
      | cons pt r =>
        have e2 : q = p2 := V.ref.inj (List.cons.inj e).1
        obtain ⟨_, r2, ⟨ps2, a, _⟩, _⟩ := h3 q List.mem_cons_self
        have b := hg.1
        rw [← e2, a] at b
        cases b
/-- rows + [[]] -/
theorem eg_more {rp : Addr} {n : Nat} (ha : Ev ta σ H (.ref rp)) (h : RowsG H rp n G) (hn : n ≤ 1000) (g0 : G []) : EG (tOp rCat ta (tLst (tCons (tLst tNil) tNil))) σ H G := fun Q q =>
  ha H (Ex.refl H) _ fun H1 e1 => by
    obtain ⟨qs, h1, h2, h3⟩ := h.ex e1
    refine el_lst (σ := σ) (H := H1) ea_nil (by decide) H1 (Ex.refl H1) (fun v H2 => [v].length ≤ sizeLine ∧ ∀ p, H2 p = none → (fun y H3 => rCat (.ref rp) y H3 Q) (.ref p) (upd H2 p (.lst [v]))) fun a H2 na e2 ha2 => ⟨by show 1 ≤ sizeLine; decide, fun b hb => ?_⟩
    have e3 : Ex H2 (upd H2 b (.lst [V.ref a])) := Ex.new hb
    have h1b := e3 _ _ (e2 _ _ h1)
    refine ⟨rp, b, qs.map V.ref, [.ref a], rfl, rfl, h1b, upd_same, by rw [List.length_map, h2]; show n + 1 ≤ sizeLine; exact sz_of (by omega), fun l hl => q l (n + 1) _ (((e1.trans e2).trans e3).trans (Ex.new hl)) ⟨qs ++ [a], by rw [List.map_append]; exact upd_same, by rw [List.length_append, h2]; rfl, fun q1 hq1 => ?_⟩⟩
    rcases List.mem_append.mp hq1 with hm | hm
    · obtain ⟨_, row, hR, hg⟩ := h3 q1 hm
      have hR2 := (hR.ex e2).ex e3
      obtain ⟨ps, hp, _⟩ := hR2.pl
      exact ⟨ne_of_none hp hl, row, hR2.ex (Ex.new hl), hg⟩
    · simp at hm
      subst hm
      have ha3 := e3 _ _ ha2
      exact ⟨ne_of_none ha3 hl, [], Row.of (ps := []) ((Ex.new hl) _ _ ha3) trivial, g0⟩
theorem ev_rowAt {rp : Addr} {n : Nat} {i : Int} (h : RowsG H rp n G) (h0 : 0 ≤ i) (h1 : i < (n : Int)) (ha : Ev ta σ H (.ref rp)) (hb : Ev tb σ H (.int i)) : ∃ q row, RowT H q row ∧ G row ∧ Ev (tOp (rIxL K) ta tb) σ H (.ref q) := by
  obtain ⟨qs, hp, hl, hg⟩ := h
  have hi : i.toNat < qs.length := by omega
  obtain ⟨_, row, hR, g⟩ := hg (qs.getD i.toNat 0) (by rw [List.getD_eq_getElem?_getD, List.getElem?_eq_getElem hi]; exact List.getElem_mem hi)
  refine ⟨_, row, hR, g, ev_op ha hb (rv_ixL (K := K) (sq_of hp) ?_)⟩
  have e : i = ((i.toNat : Nat) : Int) := by omega
  rw [e]
  exact atI_ref hi
end
theorem q_rowAt {K : PySem.W.Frag} {σ : L2.St} {H : Hp} {ta tb : TE} {D : Ends} {tz : TS} {G : Parts → Prop} {j : Nat} {rp : Addr} {n : Nat} {i : Int} (h : RowsG H rp n G) (h0 : 0 ≤ i) (h1 : i < (n : Int)) (ha : Ev ta σ H (.ref rp)) (hb : Ev tb σ H (.int i)) (k : ∀ q row H1, Ex H H1 → RowT H1 q row → G row → tz D (σ.set j (some (.ref q))) H1) : tSeq (tAsg (tOp (rIxL K) ta tb) (gName j)) tz D σ H := by
  obtain ⟨q, row, hR, hG, he⟩ := ev_rowAt (K := K) h h0 h1 ha hb
  exact q_asg he fun H1 e1 => k q row H1 e1 (hR.ex e1) hG
theorem within_drop : ∀ {ds ss : List Int} (n : Nat), Within ds ss → Within (ds.drop n) (ss.drop n)
  | _, _, 0, h => h
  | [], [], n + 1, h => h
  | d :: ds, s :: ss, n + 1, h => within_drop n h.2
  | [], _ :: _, _ + 1, h => h.elim
  | _ :: _, [], _ + 1, h => h.elim
theorem within_mem {b : Int} : ∀ {ds ss : List Int}, Within ds ss → (∀ s ∈ ss, s ≤ b) → ∀ z ∈ ds, 0 ≤ z ∧ z < b
  | [], [], _, _, z, hz => by cases hz
  | d :: ds, s :: ss, h, hb, z, hz => by
    rcases List.mem_cons.mp hz with rfl | hz
    · have := hb s List.mem_cons_self
      exact ⟨h.1.1, Int.lt_of_lt_of_le h.1.2 this⟩
    · exact within_mem h.2 (fun s hs => hb s (List.mem_cons_of_mem _ hs)) z hz
  | [], _ :: _, h, _, _, _ => h.elim
  | _ :: _, [], h, _, _, _ => h.elim
end My

set_option Elab.async false
set_option linter.all false
set_option maxRecDepth 100000
set_option maxHeartbeats 4000000
namespace My
open PySem PySem.Spec PyProof.Rows L2 Evl
theorem fold_iff (line : List Nat) : ∀ (row : Parts) (le : Int) (ws : List (List Nat)), (row.foldl (stP line) (some (le, ws))).isSome = true ↔ InOrd (line.length : Int) le row ∧ (row.map (seg line)).Nodup ∧ ∀ s ∈ row.map (seg line), s ∉ ws
  | [], le, ws => by simp [InOrd]
  | p :: r, le, ws => by
    rw [List.foldl_cons]
    by_cases c : (le ≤ p.1 ∧ p.1 < p.2 ∧ p.2 ≤ (line.length : Int)) ∧ seg line p ∉ ws
    · have e : stP line (some (le, ws)) p = some (p.2, seg line p :: ws) := if_pos c
      rw [e, fold_iff line r]
      obtain ⟨⟨c1, c2, c3⟩, c4⟩ := c
      constructor
      · rintro ⟨h1, h2, h3⟩
        refine ⟨⟨c1, c2, c3, h1⟩, ?_, fun s hs => ?_⟩
        · rw [List.map_cons, List.nodup_cons]
          exact ⟨fun hm => h3 _ hm List.mem_cons_self, h2⟩
        · rw [List.map_cons] at hs
          rcases List.mem_cons.mp hs with rfl | hs
          · exact c4
          · exact fun hw => h3 s hs (List.mem_cons_of_mem _ hw)
      · rintro ⟨⟨_, _, _, h1⟩, h2, h3⟩
        rw [List.map_cons, List.nodup_cons] at h2
        refine ⟨h1, h2.2, fun s hs hw => ?_⟩
        rcases List.mem_cons.mp hw with rfl | hw
        · exact h2.1 hs
        · exact h3 s (by rw [List.map_cons]; exact List.mem_cons_of_mem _ hs) hw
    · have e : stP line (some (le, ws)) p = none := if_neg c
      rw [e, st_none]
      constructor
      · intro h; cases h
      · rintro ⟨⟨c1, c2, c3, _⟩, _, h3⟩
        exact absurd ⟨⟨c1, c2, c3⟩, h3 _ (by rw [List.map_cons]; exact List.mem_cons_self)⟩ c
theorem good_iff {line : List Nat} {row : Parts} : goodF line row = true ↔ InOrd (line.length : Int) 0 row ∧ (row.map (seg line)).Nodup := by
  unfold goodF stF
  rw [fold_iff]
  constructor
  · rintro ⟨a, b, _⟩; exact ⟨a, b⟩
  · rintro ⟨a, b⟩; exact ⟨a, b, fun _ _ h => absurd h List.not_mem_nil⟩
theorem ord_app {n : Int} : ∀ {lo : Int} {r1 r2 : Parts}, InOrd n lo (r1 ++ r2) ↔ InOrd n lo r1 ∧ InOrd n (endF lo r1) r2
  | lo, [], r2 => by simp [InOrd, endF]
  | lo, p :: r, r2 => by
    have ih := @ord_app n p.2 r r2
    show (lo ≤ p.1 ∧ p.1 < p.2 ∧ p.2 ≤ n ∧ InOrd n p.2 (r ++ r2)) ↔ (lo ≤ p.1 ∧ p.1 < p.2 ∧ p.2 ≤ n ∧ InOrd n p.2 r) ∧ InOrd n (endF p.2 r) r2
    rw [ih]
    constructor
    · rintro ⟨a, b, c, d, e⟩; exact ⟨⟨a, b, c, d⟩, e⟩
    · rintro ⟨⟨a, b, c, d⟩, e⟩; exact ⟨a, b, c, d, e⟩
theorem ord_mono {n m lo lo2 : Int} {r : Parts} (h : InOrd n lo r) (hn : n ≤ m) (hl : lo2 ≤ lo) : InOrd m lo2 r := by
  induction r generalizing lo lo2 with
  | nil => trivial
  | cons p r ih => exact ⟨Int.le_trans hl h.1, h.2.1, Int.le_trans h.2.2.1 hn, ih h.2.2.2 (Int.le_refl _)⟩
theorem ord_end {n lo : Int} {r : Parts} (h : InOrd n lo r) : lo ≤ endF lo r := by
  induction r generalizing lo with
  | nil => exact Int.le_refl _
  | cons p r ih => exact Int.le_trans (Int.le_trans h.1 (Int.le_of_lt h.2.1)) (ih h.2.2.2)
theorem ord_mem {n lo : Int} {r : Parts} (h : InOrd n lo r) : ∀ p ∈ r, lo ≤ p.1 ∧ p.1 < p.2 ∧ p.2 ≤ endF lo r ∧ p.2 ≤ n := by
  induction r generalizing lo with
  | nil => intro p hp; cases hp
  | cons q r ih =>
    intro p hp
    rcases List.mem_cons.mp hp with rfl | hp
    · exact ⟨h.1, h.2.1, ord_end h.2.2.2, h.2.2.1⟩
    · obtain ⟨a, b, c, d⟩ := ih h.2.2.2 p hp
      exact ⟨Int.le_trans (Int.le_trans h.1 (Int.le_of_lt h.2.1)) a, b, c, d⟩
def shiftP (w : Int) (p : Int × Int) : Int × Int := (p.1 + w, p.2 + w)
theorem ord_shift {n lo w : Int} {r : Parts} (h : InOrd n lo r) : InOrd (n + w) (lo + w) (r.map (shiftP w)) := by
  induction r generalizing lo with
  | nil => trivial
  | cons p r ih =>
    have h1 : lo ≤ p.1 := h.1
    have h2 : p.1 < p.2 := h.2.1
    have h3 : p.2 ≤ n := h.2.2.1
    exact ⟨by show lo + w ≤ p.1 + w; omega, by show p.1 + w < p.2 + w; omega, by show p.2 + w ≤ n + w; omega, ih h.2.2.2⟩
theorem cut_left {T X : List Nat} {p m : Nat} (h : p + m ≤ T.length) : ((T ++ X).drop p).take m = (T.drop p).take m := by
  rw [List.drop_append_of_le_length (by omega), List.take_append_of_le_length (by rw [List.length_drop]; omega)]
theorem cut_right {T Y : List Nat} {q m : Nat} (h : T.length ≤ q) : ((T ++ Y).drop q).take m = (Y.drop (q - T.length)).take m := by
  rw [List.drop_append, List.drop_eq_nil_of_le h, List.nil_append]
def grown (line : List Nat) (a : Nat) (word : List Nat) : List Nat := line.take a ++ word ++ line.drop a
section
variable {line word : List Nat} {a : Nat}
theorem seg_nat {L : List Nat} {p : Int × Int} (h1 : 0 ≤ p.1) (h2 : 0 ≤ p.2) : seg L p = (L.drop p.1.toNat).take (p.2.toNat - p.1.toNat) := cutL_mid h1 h2
theorem seg_ahead (ha : a ≤ line.length) {p : Int × Int} (h0 : 0 ≤ p.1) (h1 : p.1 < p.2) (h2 : p.2 ≤ (a : Int)) : seg (grown line a word) p = seg line p := by
  rw [seg_nat h0 (by omega), seg_nat h0 (by omega)]
  have hT : (line.take a).length = a := by rw [List.length_take]; omega
  unfold grown
  rw [List.append_assoc, cut_left (by omega)]
  conv => rhs; rw [← List.take_append_drop a line]
  rw [cut_left (by omega)]
theorem seg_behind (ha : a ≤ line.length) {p : Int × Int} (h0 : (a : Int) ≤ p.1) (h1 : p.1 < p.2) : seg (grown line a word) (shiftP (word.length : Int) p) = seg line p := by
  rw [seg_nat (by show 0 ≤ p.1 + _; omega) (by show 0 ≤ p.2 + _; omega), seg_nat (by omega) (by omega)]
  have hT : (line.take a).length = a := by rw [List.length_take]; omega
  have hU : (line.take a ++ word).length = a + word.length := by rw [List.length_append, hT]
  unfold grown
  show ((line.take a ++ word ++ line.drop a).drop (p.1 + (word.length : Int)).toNat).take ((p.2 + (word.length : Int)).toNat - (p.1 + (word.length : Int)).toNat) = _
  rw [cut_right (by omega), hU]
  conv => rhs; rw [← List.take_append_drop a line]
  rw [cut_right (by omega), hT]
  have e1 : (p.1 + (word.length : Int)).toNat - (a + word.length) = p.1.toNat - a := by omega
  have e2 : (p.2 + (word.length : Int)).toNat - (p.1 + (word.length : Int)).toNat = p.2.toNat - p.1.toNat := by omega
  rw [e1, e2]
theorem seg_word (ha : a ≤ line.length) : seg (grown line a word) ((a : Int), (a : Int) + (word.length : Int)) = word := by
  rw [seg_nat (by show (0 : Int) ≤ (a : Int); omega) (by show (0 : Int) ≤ (a : Int) + _; omega)]
  have hT : (line.take a).length = a := by rw [List.length_take]; omega
  unfold grown
  rw [List.append_assoc]
  show ((line.take a ++ (word ++ line.drop a)).drop (a : Int).toNat).take (((a : Int) + (word.length : Int)).toNat - (a : Int).toNat) = _
  have e1 : (a : Int).toNat = a := by omega
  have e2 : ((a : Int) + (word.length : Int)).toNat - (a : Int).toNat = word.length := by omega
  rw [e2, e1, cut_right (by omega), hT, Nat.sub_self, List.drop_zero, List.take_left]
theorem grown_len (ha : a ≤ line.length) : (grown line a word).length = line.length + word.length := by
  unfold grown
  rw [List.length_append, List.length_append, List.length_take, List.length_drop]
  omega
theorem twice_good {A B : Parts} (ha : a ≤ line.length) (hA : endF 0 A ≤ (a : Int)) (hB : InOrd (line.length : Int) (a : Int) B) (h : goodF line (A ++ B) = true) : goodF (grown line a word) (A ++ B.map (shiftP (word.length : Int))) = true := by
  obtain ⟨h1, h2⟩ := good_iff.mp h
  obtain ⟨oA, _⟩ := ord_app.mp h1
  have hseg : (A ++ B.map (shiftP (word.length : Int))).map (seg (grown line a word)) = (A ++ B).map (seg line) := by
    rw [List.map_append, List.map_append, List.map_map]
    congr 1
    · refine List.map_congr_left fun p hp => ?_
      obtain ⟨q1, q2, q3, _⟩ := ord_mem oA p hp
      exact seg_ahead ha q1 q2 (by omega)
    · refine List.map_congr_left fun p hp => ?_
      obtain ⟨q1, q2, _, _⟩ := ord_mem hB p hp
      exact seg_behind ha q1 q2
  refine good_iff.mpr ⟨?_, by rw [hseg]; exact h2⟩
  rw [grown_len ha]
  refine ord_app.mpr ⟨ord_mono oA (by omega) (Int.le_refl _), ?_⟩
  have := ord_shift (w := (word.length : Int)) hB
  refine ord_mono this (by omega) (by omega)
theorem twice_bad {A B : Parts} (ha : a ≤ line.length) (hA : endF 0 A ≤ (a : Int)) (hB : InOrd (line.length : Int) (a : Int) B) (h : goodF line (A ++ B) = true) (hw : word ∈ (A ++ B).map (seg line)) :
    goodF (grown line a word) (A ++ [((a : Int), (a : Int) + (word.length : Int))] ++ B.map (shiftP (word.length : Int))) = false := by
  cases hg : goodF (grown line a word) (A ++ [((a : Int), (a : Int) + (word.length : Int))] ++ B.map (shiftP (word.length : Int))) with
  | false => rfl
  | true =>
    exfalso
    obtain ⟨_, hn⟩ := good_iff.mp hg
    obtain ⟨oA, _⟩ := ord_app.mp (good_iff.mp h).1
    rw [List.map_append, List.map_append, List.map_map] at hn
    have hAs : A.map (seg (grown line a word)) = A.map (seg line) := List.map_congr_left fun p hp => by
      obtain ⟨q1, q2, q3, _⟩ := ord_mem oA p hp
      exact seg_ahead ha q1 q2 (by omega)
    have hBs : B.map (seg (grown line a word) ∘ shiftP (word.length : Int)) = B.map (seg line) := List.map_congr_left fun p hp => by
      obtain ⟨q1, q2, _, _⟩ := ord_mem hB p hp
      exact seg_behind ha q1 q2
    have hWs : [((a : Int), (a : Int) + (word.length : Int))].map (seg (grown line a word)) = [word] := by
      show [seg (grown line a word) ((a : Int), (a : Int) + (word.length : Int))] = [word]
      rw [seg_word ha]
    rw [hAs, hBs, hWs] at hn
    rw [List.map_append] at hw
    rcases List.mem_append.mp hw with h1 | h1
    · rw [List.append_assoc, List.nodup_append] at hn
      exact hn.2.2 word h1 word (List.mem_append_left _ (List.mem_singleton.mpr rfl)) rfl
    · rw [List.nodup_append] at hn
      exact hn.2.2 word (List.mem_append_right _ (List.mem_singleton.mpr rfl)) word h1 rfl
end
end My

set_option Elab.async false
set_option linter.all false
set_option maxRecDepth 100000
set_option maxHeartbeats 4000000
namespace My
open PySem PySem.Spec PyProof.Rows L2 Evl
open SX (S S_len S_cat S_beq S_beq_eq S_inj S_tl)
section
variable {P : Program} {w : World} {K : PySem.W.Frag} {mg : Str → Option Value} {base : Heap}
theorem within_at {line : List Nat} {row : Parts} {jN : Nat} (h : goodF line row = true) (hj : jN ≤ row.length) : ∃ a : Nat, (jN < row.length → (row.getD jN (0, 0)).1 = (a : Int)) ∧ (¬ jN < row.length → line.length = a) ∧ a ≤ line.length ∧ endF 0 (row.take jN) ≤ (a : Int) ∧ InOrd (line.length : Int) (a : Int) (row.drop jN) := by
  obtain ⟨ho, _⟩ := good_iff.mp h
  have ho2 := ho
  rw [← List.take_append_drop jN row] at ho2
  obtain ⟨oA, oB⟩ := ord_app.mp ho2
  by_cases c : jN < row.length
  · obtain ⟨q1, q2, q3⟩ := ord_at ho c
    have e0 := ord_end oA
    refine ⟨(row.getD jN (0, 0)).1.toNat, fun _ => by omega, fun n => absurd c n, by omega, by omega, ?_⟩
    have hd : row.drop jN = row.getD jN (0, 0) :: row.drop (jN + 1) := by
      rw [List.drop_eq_getElem_cons c, List.getD_eq_getElem?_getD, List.getElem?_eq_getElem c]
      rfl
    rw [hd] at oB ⊢
    exact ⟨by omega, oB.2.1, oB.2.2.1, oB.2.2.2⟩
  · have hd : row.drop jN = [] := List.drop_eq_nil_of_le (by omega)
    refine ⟨line.length, fun n => absurd n c, fun _ => rfl, Nat.le_refl _, ?_, by rw [hd]; trivial⟩
    have ht : row.take jN = row := List.take_of_length_le (by omega)
    rw [ht]
    by_cases hr : row = []
    · subst hr; show (0 : Int) ≤ _; omega
    · have hp : 0 < row.length := List.length_pos_iff.mpr hr
      have := end_take (row := row) (i := row.length - 1) (by omega) 0
      have e : row.length - 1 + 1 = row.length := by omega
      rw [e, List.take_length] at this
      rw [this]
      exact (ord_at ho (i := row.length - 1) (by omega)).2.2
abbrev s_law_twice_told : Stmt := top 19
abbrev N_law_twice_told : List Str := ["line", "row", "k", "j", "word", "wide", "at", "longer", "ahead", "behind", "part"]
theorem sc_law_twice_told : FnScope N_law_twice_told ["line", "row", "k", "j"] (defScope s_law_twice_told) := ⟨rfl, rfl, rfl, by decide +kernel, rfl, by decide +kernel, by decide +kernel⟩
def spTw : Sp := fun vs H Q _ => ∃ (line : List Nat) (p : Addr) (row : Parts) (kN jN : Nat), vs = [.str (S line), .ref p, .int (kN : Int), .int (jN : Int)] ∧ RowT H p row ∧ goodF line row = true ∧ kN < row.length ∧ jN ≤ row.length ∧ line.length ≤ 1000 ∧ row.length ≤ 900 ∧ RetV (.bl true) H Q
theorem ok_law_twice_told (T : TT mg) (F : At K mg "_law_twice_told" s_law_twice_told) (D_law_reading : Dn P w K mg base 1 "_law_reading" s_law_reading ["line", "row"] spRd) (D_law_same : Dn P w K mg base 2 "_law_same" s_law_same ["line", "row"] spSm) :
    Dn P w K mg base 3 "_law_twice_told" s_law_twice_told ["line", "row", "k", "j"] spTw := by
  refine dn_ok F sc_law_twice_told (fun _ _ _ _ _ _ us hl => match us, hl with | [_, _, _, _], _ => rfl) (fun vs H Q E h => ?_) (fun f cdv A outer t H vs Q E hr h => ?_)
  · obtain ⟨line, p, row, kN, jN, rfl, _⟩ := h; rfl
  · obtain ⟨line, p, row, kN, jN, rfl, hR, hg, hk, hj, hz, hrw, q⟩ := h
    refine ⟨_, (pss_cons (ps_set (i := 4) sc_law_twice_told.nd rfl (Or.inl rfl) (pe_slice sl_str (pv 0) (po_some (pe_ix ix_tup (pe_ix ix_list (pv 1) (pv 2) (fun _ _ => rfl)) pe_int (fun _ _ => rfl))) (po_some (pe_ix ix_tup (pe_ix ix_list (pv 1) (pv 2) (fun _ _ => rfl)) pe_int (fun _ _ => rfl)))))
      (pss_cons (ps_set (i := 5) sc_law_twice_told.nd rfl (Or.inr rfl) (pe_callB call_len_str (by rfl) T.len boot_len (pa_cons (pv 4) pa_nil)))
      (pss_cons (ps_set (i := 6) sc_law_twice_told.nd rfl (Or.inl rfl) (pe_callB call_len_str (by rfl) T.len boot_len (pa_cons (pv 0) pa_nil)))
      (pss_cons (ps_if (pt_cmpR op_lt (pv 3) (pe_callB call_len_seq (by rfl) T.len boot_len (pa_cons (pv 1) pa_nil)) (nomark _)) (pss_one (ps_set (i := 6) sc_law_twice_told.nd rfl (Or.inl rfl) (pe_ix ix_tup (pe_ix ix_list (pv 1) (pv 3) (fun _ _ => rfl)) pe_int (fun _ _ => rfl)))) pss_nil)
      (pss_cons (ps_set (i := 7) sc_law_twice_told.nd rfl (Or.inl rfl) (pe_op op_add_str (pe_op op_add_str (pe_slice sl_str (pv 0) po_none (po_some (pv 6))) (pv 4)) (pe_slice sl_str (pv 0) (po_some (pv 6)) po_none)))
      (pss_cons (ps_set (i := 8) sc_law_twice_told.nd rfl (Or.inl rfl) (pe_slice sl_list (pv 1) po_none (po_some (pv 3))))
      (pss_cons (ps_setLc (te := tTup (tCons (tOp (rI0 fun i j => .int (i + j)) (tOp (rIxT K) (tVar 10) (tC (.int 0))) (tVar 5)) (tCons (tOp (rI0 fun i j => .int (i + j)) (tOp (rIxT K) (tVar 10) (tC (.int 1))) (tVar 5)) tNil))) (i := 9) (own := [("part", 10)]) (g := gName 10) (tt := tYes) rfl sc_law_twice_told.nd rfl rfl (sw_true rfl rfl rfl (by decide +kernel)) (pi_list (pe_slice sl_list (pv 1) (po_some (pv 3)) po_none)) (blkOk_by (own := [("part", 10)]) (N := N_law_twice_told) (sc := defScope s_law_twice_told) (by decide +kernel)) (fun _ _ _ _ _ => pg_name (i := 10) sc_law_twice_told.nd rfl (Or.inl rfl)) (fun _ _ _ _ _ => pts_nil) (fun _ _ _ _ _ => (pe_tup (pa_cons (pe_op op_add (pe_ix ix_tup (pv 10) pe_int (fun _ _ => rfl)) (pv 5)) (pa_cons (pe_op op_add (pe_ix ix_tup (pv 10) pe_int (fun _ _ => rfl)) (pv 5)) pa_nil)))))
      (pss_cons (ps_if (PW.pt (pw_or (pt_val (pe_dn D_law_reading hr (by decide) rfl (pa_cons (pv 7) (pa_cons (pe_op op_cat (pe_op op_cat (pv 8) (pe_lst (pa_cons (pe_tup (pa_cons (pv 6) (pa_cons (pe_op op_add (pv 6) (pv 5)) pa_nil))) pa_nil))) (pv 9)) pa_nil)))) (pw_or1 (pt_not (pt_val (pe_dn D_law_reading hr (by decide) rfl (pa_cons (pv 7) (pa_cons (pe_op op_cat (pv 8) (pv 9)) pa_nil)))))))) (pss_one (ps_ret pe_bl)) pss_nil)
      (pss_cons (ps_if (PW.pt (pw_or (pt_not (pt_val (pe_dn D_law_same hr (by decide) rfl (pa_cons (pv 7) (pa_cons (pe_op op_cat (pe_op op_cat (pv 8) (pe_lst (pa_cons (pe_tup (pa_cons (pv 6) (pa_cons (pe_op op_add (pv 6) (pv 5)) pa_nil))) pa_nil))) (pv 9)) pa_nil))))) (pw_or1 (pt_not (pt_val (pe_dn D_law_same hr (by decide) rfl (pa_cons (pv 7) (pa_cons (pe_op op_cat (pv 8) (pv 9)) pa_nil)))))))) (pss_one (ps_ret pe_bl)) pss_nil)
      (pss_one (ps_ret (pe_dn D_law_same hr (by decide) rfl (pa_cons (pv 7) (pa_cons (pe_op op_cat (pe_op op_cat (pv 8) (pe_lst (pa_cons (pe_tup (pa_cons (pv 6) (pa_cons (pe_op op_sub (pe_op op_add (pv 6) (pv 5)) pe_int) pa_nil))) pa_nil))) (pv 9)) pa_nil)))))))))))))), ?_⟩
    obtain ⟨a, ha1, ha2, ha3, hA, hB⟩ := within_at hg hj
    refine q_asg (v := .str (S (seg line (row.getD kN (0, 0))))) (ev_slS (ev_var rfl) (eo_some (ev_start (K := K) hR (ixN_nat hk) (ev_var rfl) (ev_var rfl))) (eo_some (ev_stop (K := K) hR (ixN_nat hk) (ev_var rfl) (ev_var rfl))) (by omega)) fun H1 e1 => ?_
    have hwl : (seg line (row.getD kN (0, 0))).length ≤ line.length := cutL_len _ _ _
    have hmem : seg line (row.getD kN (0, 0)) ∈ row.map (seg line) := List.mem_map.mpr ⟨_, by rw [List.getD_eq_getElem?_getD, List.getElem?_eq_getElem hk]; exact List.getElem_mem hk, rfl⟩
    revert hwl hmem e1
    generalize seg line (row.getD kN (0, 0)) = word
    intro e1 hwl hmem
    refine q_asg (ev_lenSS (ev_var rfl) (by omega)) fun H2 e2 => ?_
    refine q_asg (ev_lenSS (ev_var rfl) (by omega)) fun H3 e3 => ?_
    have e13 := (e1.trans e2).trans e3
    refine q_ifAsg (v := .int (a : Int)) (et_test (ev_op (ev_var rfl) (ev_lenR (K := K) (hR.ex e13) (ev_var rfl)) rv_I0)) (fun hb => ?_) (fun hb => ?_) fun H4 e4 => ?_
    · have hj1 : jN < row.length := by have := of_decide_eq_true hb; omega
      rw [← ha1 hj1]
      exact ev_start (K := K) (hR.ex e13) (ixN_nat hj1) (ev_var rfl) (ev_var rfl)
    · have hj1 : ¬ jN < row.length := by have := of_decide_eq_false hb; omega
      rw [← ha2 hj1]
      rfl
    have e14 := e13.trans e4
    have c1 := cutL_len line none (some (a : Int))
    have c2 := cutL_len line (some (a : Int)) none
    refine q_asg (v := .str (S (grown line a word))) (ev_is (ev_op (ev_op (ev_slS (ev_var rfl) eo_none (eo_some (ev_var rfl)) (by omega)) (ev_var rfl) (rv_addS (by omega))) (ev_slS (ev_var rfl) (eo_some (ev_var rfl)) eo_none (by omega)) (rv_addS (by rw [List.length_append]; omega))) (by
      rw [cutL_to (by omega), cutL_from (by omega), Int.toNat_natCast]
      rfl)) fun H5 e5 => ?_
    have e15 := e14.trans e5
    refine q_asgR (er_slice (K := K) (ev_var rfl) eo_none (eo_some (ev_var rfl)) (hR.ex e15)) fun ap H6 A _ e6 hAr hAe => ?_
    have hAe2 : A = row.take jN := by rw [hAe, cutL_to (by omega), Int.toNat_natCast]
    clear hAe
    subst hAe2
    have e16 := e15.trans e6
    refine q_mapParts (K := K) (B := row.drop jN) (shiftP (word.length : Int)) ((er_slice (K := K) (ev_var rfl) (eo_some (ev_var rfl)) eo_none (hR.ex e16)).mono fun r h => by rw [h, cutL_from (by omega), Int.toNat_natCast]) (by rw [List.length_drop]; omega) (fun _ => rfl) (fun q1 pt H7 e7 hq1 => ?_) fun bp H7 _ e7 hBr => ?_
    · exact eu_tup (ea_cons (ev_op (ev_op (ev_var rfl) ev_c (rv_ixT (K := K) (st_of hq1) (p0 pt))) (ev_var rfl) rv_I0) (ea_cons (ev_op (ev_op (ev_var rfl) ev_c (rv_ixT (K := K) (st_of hq1) (p1 pt))) (ev_var rfl) rv_I0) ea_nil)) (by show 2 ≤ 100000; decide)
    have e17 := e16.trans e7
    have hAr7 := hAr.ex e7
    have hgr := grown_len (word := word) ha3
    have lA : (row.take jN).length ≤ 900 := by rw [List.length_take]; omega
    have lB : ((row.drop jN).map (shiftP (word.length : Int))).length ≤ 900 := by rw [List.length_map, List.length_drop]; omega
    have hsplit : row.take jN ++ row.drop jN = row := List.take_append_drop jN row
    have gsp : goodF line (row.take jN ++ row.drop jN) = true := by rw [hsplit]; exact hg
    have msp : word ∈ (row.take jN ++ row.drop jN).map (seg line) := by rw [hsplit]; exact hmem
    have good2 := twice_good (word := word) ha3 hA hB gsp
    have bad2 := twice_bad (word := word) ha3 hA hB gsp msp
    have three : ∀ (b : Int) (tb : TE) (H8 : Hp), Ex H7 H8 → (∀ H9, Ex H8 H9 → Ev tb _ H9 (.int b)) → ER (tOp rCat (tOp rCat (tVar 8) (tLst (tCons (tTup (tCons (tVar 6) (tCons tb tNil))) tNil))) (tVar 9))
        [some (V.str (S line)), some (V.ref p), some (V.int (kN : Int)), some (V.int (jN : Int)), some (V.str (S word)), some (V.int (word.length : Int)), some (V.int (a : Int)), some (V.str (S (grown line a word))), some (V.ref ap), some (V.ref bp), none] H8 (fun r => r = row.take jN ++ [((a : Int), b)] ++ (row.drop jN).map (shiftP (word.length : Int))) := fun b tb H8 e8 hb => (er_catR (er_catV (ev_var rfl) (hAr7.ex e8) (fun H9 e9 => er_one (ev_var rfl) (fun H10 e10 => hb H10 (e9.trans e10))) (fun s h => by rw [h]; show _ + 1 ≤ _; omega)) (ev_var rfl) (hBr.ex e8) (fun r h => by
          obtain ⟨b1, rfl, rfl⟩ := h
          rw [List.length_append]; show _ + 1 + _ ≤ _; omega)).mono fun r h => by obtain ⟨x, ⟨b1, rfl, rfl⟩, rfl⟩ := h; rfl
    have l3 : ∀ b : Int, (row.take jN ++ [((a : Int), b)] ++ (row.drop jN).map (shiftP (word.length : Int))).length ≤ 10000 := fun b => by
      rw [List.length_append, List.length_append]; show _ + 1 + _ ≤ _; omega
    have l2 : (row.take jN ++ (row.drop jN).map (shiftP (word.length : Int))).length ≤ 10000 := by rw [List.length_append]; omega
    refine q_when (b := false || !true) (et_or (et_B (ev_call2R (ev_var rfl) (three _ _ H7 (Ex.refl H7) fun H9 e9 => ev_op (ev_var rfl) (ev_var rfl) rv_I0) fun p2 H8 r2 e8 hR2 hG2 => by
      rw [← bad2, ← hG2]
      exact sv_rd (by omega) (by rw [hG2]; exact l3 _) hR2)) fun _ => et_not (et_B (ev_call2R (ev_var rfl) (er_catVV (ev_var rfl) hAr7 (ev_var rfl) hBr (by omega)) fun p2 H8 r2 e8 hR2 hG2 => by
      rw [← good2, ← hG2]
      exact sv_rd (by omega) (by rw [hG2]; exact l2) hR2))) (fun hb H8 e8 => ?_) (fun _ H8 e8 => ?_)
    · simp at hb
    refine q_when (b := !true || !true) (et_or (et_not (et_B (ev_call2R (ev_var rfl) (three _ _ H8 e8 fun H9 e9 => ev_op (ev_var rfl) (ev_var rfl) rv_I0) fun p2 H9 r2 e9 hR2 hG2 => sv_sm (by omega) (by rw [hG2]; exact l3 _) hR2))) fun _ => et_not (et_B (ev_call2R (ev_var rfl) (er_catVV (ev_var rfl) (hAr7.ex e8) (ev_var rfl) (hBr.ex e8) (by omega)) fun p2 H9 r2 e9 hR2 hG2 => sv_sm (by omega) (by rw [hG2]; exact l2) hR2))) (fun hb H9 e9 => ?_) (fun _ H9 e9 => ?_)
    · simp at hb
    exact s_ret (ev_call2R (ev_var rfl) (three _ _ H9 (e8.trans e9) fun H10 e10 => ev_op (ev_op (ev_var rfl) (ev_var rfl) rv_I0) ev_c rv_I0) fun p2 H10 r2 e10 hR2 hG2 => sv_sm (by omega) (by rw [hG2]; exact l3 _) hR2) fun H10 e10 => q H10 (((e17.trans e8).trans e9).trans e10)
end
end My

set_option Elab.async false
set_option linter.all false
set_option maxRecDepth 100000
set_option maxHeartbeats 8000000
namespace My
open PySem PySem.Spec PyProof.Rows L2 Evl
open SX (S S_len S_cat S_beq S_beq_eq S_inj S_tl)
def S14 : List Int := [12, 36, 36, 36, 36, 36, 36, 6, 95, 95, 95, 95, 95, 95]
def S7 : List Int := [401, 9, 3, 400, 400, 3, 4]
def Sm : List Int := List.replicate 400 12
def St : List Int := [22, 8, 401, 401, 12] ++ List.replicate 400 6
def Sg : List Int := List.replicate 400 95
def Sr : List Int := [3, 401, 3] ++ (List.replicate 400 [64, 404, 404]).flatten
theorem ok14 : OkSizes S14 := by unfold OkSizes; decide
theorem ok7 : OkSizes S7 := by unfold OkSizes; decide
theorem okm : OkSizes Sm := by unfold OkSizes; decide +kernel
theorem okt : OkSizes St := by unfold OkSizes; decide +kernel
theorem okg : OkSizes Sg := by unfold OkSizes; decide +kernel
theorem okr : OkSizes Sr := by unfold OkSizes; decide +kernel
theorem e_m : (List.replicate (Int.toNat 400) [V.int 12]).flatten = Sm.map V.int := by decide +kernel
theorem e_t : [V.int 22, V.int 8, V.int 401, V.int 401, V.int 12] ++ (List.replicate (Int.toNat 400) [V.int 6]).flatten = St.map V.int := by decide +kernel
theorem e_g : (List.replicate (Int.toNat 400) [V.int 95]).flatten = Sg.map V.int := by decide +kernel
theorem e_r : [V.int 3, V.int 401, V.int 3] ++ (List.replicate (Int.toNat 400) [V.int 64, V.int 404, V.int 404]).flatten = Sr.map V.int := by decide +kernel
section
variable {P : Program} {w : World} {K : PySem.W.Frag} {mg : Str → Option Value} {base : Heap}
section
variable {σ : L2.St} {H : Hp} {ta tb tc te : TE} {E : XK}
theorem ew_mk {line : List Nat} {mp : Addr} {ms : List Int} {bias : Int} (h1 : Ev ta σ H (.str (S line))) (h2 : Ev tb σ H (.ref mp)) (h3 : Ev tc σ H (.int bias)) (hS : SqL K H mp (ms.map V.int)) (hl : line.length ≤ ms.length) (hz : line.length ≤ 400) :
    EW (tCall (spMk K) [] E (tCons ta (tCons tb (tCons tc tNil)))) σ H (fun row => goodF line row = true ∧ row.length ≤ 401) := fun H0 e0 Q q => (ea_cons h1 (ea_cons h2 (ea_cons h3 ea_nil))) H0 e0 _ fun H1 e1 => ⟨line, mp, ms, bias, rfl, ex_l (e0.trans e1) hS, hl, hz, fun p row H2 e2 hR hG => q p H2 row (e1.trans e2) hR hG⟩
theorem ew_sh {line : List Nat} {a m : Int} (h1 : Ev ta σ H (.str (S line))) (h2 : Ev tb σ H (.int a)) (h3 : Ev tc σ H (.int m)) (ha : 0 ≤ a) (hm : 0 ≤ m) (hm2 : m ≤ 1000) (hz : line.length ≤ 400) :
    EW (tCall spSh [] E (tCons ta (tCons tb (tCons tc tNil)))) σ H (fun row => goodF line row = true ∧ row.length ≤ 401) := fun H0 e0 Q q => (ea_cons h1 (ea_cons h2 (ea_cons h3 ea_nil))) H0 e0 _ fun H1 e1 => ⟨line, a, m, rfl, ha, hm, hm2, hz, fun p row H2 e2 hR hG => q p H2 row (e1.trans e2) hR hG⟩
theorem ew_ar {line : List Nat} {rs : List Int} (h1 : Ev ta σ H (.str (S line))) (h2 : EvL tb σ H (rs.map V.int)) (hz : line.length ≤ 1000) (hl : rs.length = 1203) (h0 : 0 ≤ rs.getD 0 0 ∧ rs.getD 0 0 < 3) : EW (tCall (spAr K) [] E (tCons ta (tCons tb tNil))) σ H (fun row => row.length ≤ 401) := fun H0 e0 Q q =>
  h1 H0 e0 _ fun H1 e1 => h2 H1 (e0.trans e1) _ fun p H2 _ e2 h => ⟨line, p, rs, rfl, hz, sq_of h, hl, h0, fun p row H3 e3 hR hG => q p H3 row ((e1.trans e2).trans e3) hR hG⟩
theorem eg_lo {line : List Nat} {p : Addr} {row : Parts} (h1 : Ev ta σ H (.str (S line))) (h2 : Ev tb σ H (.ref p)) (hz : line.length ≤ 1000) (hR : RowT H p row) (hl : row.length ≤ 900) : EG (tCall spLo [] E (tCons ta (tCons tb tNil))) σ H (fun r => r.length ≤ 1000) := fun Q q =>
  (ea_cons h1 (ea_cons h2 ea_nil)) H (Ex.refl H) _ fun H1 e1 => ⟨line, p, row, rfl, hz, hR.ex e1, hl, fun rp H2 _ e2 hG => q rp 5 H2 (e1.trans e2) hG⟩
theorem eg_ch {line : List Nat} {p : Addr} {row : Parts} {ds : List Int} (h1 : Ev ta σ H (.str (S line))) (h2 : Ev tb σ H (.ref p)) (h3 : EvL tc σ H (ds.map V.int)) (hz : line.length ≤ 1000) (hR : RowT H p row) (hl1 : 1 ≤ row.length) (hl : row.length ≤ 402) (hd : 3 ≤ ds.length) : EG (tCall (spCh K) [] E (tCons ta (tCons tb (tCons tc tNil)))) σ H (fun r => r.length ≤ 1000) := fun Q q =>
  h1 H (Ex.refl H) _ fun H1 e1 => h2 H1 e1 _ fun H2 e2 => h3 H2 (e1.trans e2) _ fun dp H3 _ e3 h => ⟨line, p, dp, row, ds, rfl, hz, hR.ex ((e1.trans e2).trans e3), hl1, hl, sq_of h, hd, fun n _ rp H4 _ e4 hG => q rp n H4 (((e1.trans e2).trans e3).trans e4) hG⟩
end
abbrev G0 (line : List Nat) : Parts → Prop := fun row => goodF line row = true ∧ row.length ≤ 401
abbrev s_law : Stmt := top 20
abbrev N_law : List Str := ["script", "drawn", "abc", "marks", "line", "digits", "rows", "row", "changed", "k", "longer"]
theorem sc_law : FnScope N_law ["script"] (defScope s_law) := ⟨rfl, rfl, rfl, by decide +kernel, rfl, by decide +kernel, by decide +kernel⟩
def spLaw (K : PySem.W.Frag) : Sp := fun vs H Q _ => ∃ (a : Addr) (ns : List Int), vs = [.ref a] ∧ SqL K H a (ns.map V.int) ∧ ∀ H', Q (.bl true) H'
theorem ok_law (T : TT mg) (F : At K mg "law" s_law) (D_law_cell : Dn P w K mg base 1 "_law_cell" s_law_cell ["script", "k"] (spCellF K)) (D_law_digits : Dn P w K mg base 1 "_law_digits" s_law_digits ["cell", "sizes"] (spDigits K))
    (D_law_alphabet : Dn P w K mg base 1 "_law_alphabet" s_law_alphabet ["row", "upto"] (spAlp K)) (D_law_signs : Dn P w K mg base 1 "_law_signs" s_law_signs ["row"] (spSig K)) (D_law_any_text : Dn P w K mg base 2 "_law_any_text" s_law_any_text ["abc", "row", "most"] (spAny K))
    (D_law_marked : Dn P w K mg base 1 "_law_marked" s_law_marked ["line", "marks", "bias"] (spMk K)) (D_law_shortest : Dn P w K mg base 1 "_law_shortest" s_law_shortest ["line", "at", "most"] spSh) (D_law_reading : Dn P w K mg base 1 "_law_reading" s_law_reading ["line", "row"] spRd)
    (D_law_same : Dn P w K mg base 2 "_law_same" s_law_same ["line", "row"] spSm) (D_law_longer : Dn P w K mg base 1 "_law_longer" s_law_longer ["line", "row"] spLo) (D_law_any_row : Dn P w K mg base 1 "_law_any_row" s_law_any_row ["line", "row"] (spAr K))
    (D_law_changed : Dn P w K mg base 2 "_law_changed" s_law_changed ["line", "row", "digits"] (spCh K)) (D_law_twice_told : Dn P w K mg base 3 "_law_twice_told" s_law_twice_told ["line", "row", "k", "j"] spTw) : Dn P w K mg base 4 "law" s_law ["script"] (spLaw K) := by
  refine dn_ok F sc_law (fun _ _ _ _ _ _ us hl => match us, hl with | [_], _ => rfl) (fun vs H Q E h => ?_) (fun f cdv A outer s H vs Q E hr h => ?_)
  · obtain ⟨a, ns, rfl, _⟩ := h; rfl
  · obtain ⟨a, ns, rfl, hS, q⟩ := h
    refine ⟨_, (pss_cons (ps_set (i := 1) sc_law.nd rfl (Or.inl rfl) (pe_dn D_law_digits hr (by decide) rfl (pa_cons (pe_dn D_law_cell hr (by decide) rfl (pa_cons (pv 0) (pa_cons pe_int pa_nil))) (pa_cons (pe_lst (pa_cons pe_int (pa_cons pe_int (pa_cons pe_int (pa_cons pe_int (pa_cons pe_int (pa_cons pe_int (pa_cons pe_int (pa_cons pe_int (pa_cons pe_int (pa_cons pe_int (pa_cons pe_int (pa_cons pe_int (pa_cons pe_int (pa_cons pe_int pa_nil))))))))))))))) pa_nil))))
      (pss_cons (ps_set (i := 2) sc_law.nd rfl (Or.inl rfl) (pe_dn D_law_alphabet hr (by decide) rfl (pa_cons (pv 1) (pa_cons pe_int pa_nil))))
      (pss_cut (ps_if (pt_cmpR op_lt (pe_ix ix_list (pv 1) pe_int (fun _ _ => rfl)) pe_int (nomark _)) (pss_one (ps_set (i := 2) sc_law.nd rfl (Or.inl rfl) (pe_dn D_law_signs hr (by decide) rfl (pa_cons (pe_slice sl_list (pv 1) (po_some pe_int) (po_some (pe_op op_add pe_int (pe_op op_fdiv (pe_ix ix_list (pv 1) pe_int (fun _ _ => rfl)) pe_int)))) pa_nil)))) pss_nil)
      (pss_cons (ps_set (i := 3) sc_law.nd rfl (Or.inl rfl) (pe_dn D_law_digits hr (by decide) rfl (pa_cons (pe_dn D_law_cell hr (by decide) rfl (pa_cons (pv 0) (pa_cons pe_int pa_nil))) (pa_cons (pe_op op_rep (pe_lst (pa_cons pe_int pa_nil)) pe_int) pa_nil))))
      (pss_cons (ps_set (i := 4) sc_law.nd rfl (Or.inl rfl) (pe_dn D_law_any_text hr (by decide) rfl (pa_cons (pv 2) (pa_cons (pe_dn D_law_digits hr (by decide) rfl (pa_cons (pe_dn D_law_cell hr (by decide) rfl (pa_cons (pv 0) (pa_cons pe_int pa_nil))) (pa_cons (pe_op op_cat (pe_lst (pa_cons pe_int (pa_cons pe_int (pa_cons pe_int (pa_cons pe_int (pa_cons pe_int pa_nil)))))) (pe_op op_rep (pe_lst (pa_cons pe_int pa_nil)) pe_int)) pa_nil))) (pa_cons pe_int pa_nil)))))
      (pss_cut (ps_if (pt_cmpR op_eq (pe_ix ix_list (pv 1) pe_int (fun _ _ => rfl)) pe_int (nomark _)) (pss_one (ps_set (i := 4) sc_law.nd rfl (Or.inl rfl) (pe_dn D_law_signs hr (by decide) rfl (pa_cons (pe_slice sl_list (pe_dn D_law_digits hr (by decide) rfl (pa_cons (pe_dn D_law_cell hr (by decide) rfl (pa_cons (pv 0) (pa_cons pe_int pa_nil))) (pa_cons (pe_op op_rep (pe_lst (pa_cons pe_int pa_nil)) pe_int) pa_nil))) po_none (po_some (pe_callB call_len_str (by rfl) T.len boot_len (pa_cons (pv 4) pa_nil)))) pa_nil)))) pss_nil)
      (pss_cons (ps_set (i := 5) sc_law.nd rfl (Or.inl rfl) (pe_dn D_law_digits hr (by decide) rfl (pa_cons (pe_dn D_law_cell hr (by decide) rfl (pa_cons (pv 0) (pa_cons pe_int pa_nil))) (pa_cons (pe_lst (pa_cons pe_int (pa_cons pe_int (pa_cons pe_int (pa_cons pe_int (pa_cons pe_int (pa_cons pe_int (pa_cons pe_int pa_nil)))))))) pa_nil))))
      (pss_cons (ps_set (i := 6) sc_law.nd rfl (Or.inl rfl) (pe_lst (pa_cons (pe_dn D_law_marked hr (by decide) rfl (pa_cons (pv 4) (pa_cons (pv 3) (pa_cons (pe_ix ix_list (pv 5) pe_int (fun _ _ => rfl)) pa_nil)))) (pa_cons (pe_dn D_law_shortest hr (by decide) rfl (pa_cons (pv 4) (pa_cons pe_int (pa_cons pe_int pa_nil)))) pa_nil))))
      (pss_cons (ps_expr (pe_bm PySem.F.plainAttrs_list PySem.F.slot_list_append PySem.F.type_list_append mt_append (pv 6) (pa_cons (pe_dn D_law_shortest hr (by decide) rfl (pa_cons (pv 4) (pa_cons (pe_op op_mod (pe_callTy call_int1 (by rfl) T.int_ (by decide +kernel) (pa_cons (pe_ix ix_list (pv 5) pe_int (fun _ _ => rfl)) pa_nil)) (pe_op op_add (pe_callB call_len_str (by rfl) T.len boot_len (pa_cons (pv 4) pa_nil)) pe_int)) (pa_cons (pe_op op_add pe_int (pe_ix ix_list (pv 5) pe_int (fun _ _ => rfl))) pa_nil)))) pa_nil)))
      (pss_cons (ps_for PassesOwn.never rfl (pi_list (pe_op op_cat (pv 6) (pe_lst (pa_cons (pe_lst pa_nil) pa_nil)))) (pg_name (i := 7) sc_law.nd rfl (Or.inl rfl))
        (pss_cons (ps_if (PW.pt (pw_or (pt_not (pt_val (pe_dn D_law_reading hr (by decide) rfl (pa_cons (pv 4) (pa_cons (pv 7) pa_nil))))) (pw_or1 (pt_not (pt_val (pe_dn D_law_same hr (by decide) rfl (pa_cons (pv 4) (pa_cons (pv 7) pa_nil)))))))) (pss_one (ps_ret pe_bl)) pss_nil)
          (pss_one (ps_for PassesOwn.never rfl (pi_list (pe_dn D_law_longer hr (by decide) rfl (pa_cons (pv 4) (pa_cons (pv 7) pa_nil)))) (pg_name (i := 10) sc_law.nd rfl (Or.inl rfl))
            (pss_one (ps_if (pt_not (pt_val (pe_dn D_law_same hr (by decide) rfl (pa_cons (pv 4) (pa_cons (pv 10) pa_nil))))) (pss_one (ps_ret pe_bl)) pss_nil))))))
      (pss_cons (ps_if (pt_not (pt_val (pe_dn D_law_same hr (by decide) rfl (pa_cons (pv 4) (pa_cons (pe_dn D_law_any_row hr (by decide) rfl (pa_cons (pv 4) (pa_cons (pe_dn D_law_digits hr (by decide) rfl (pa_cons (pe_dn D_law_cell hr (by decide) rfl (pa_cons (pv 0) (pa_cons pe_int pa_nil))) (pa_cons (pe_op op_cat (pe_lst (pa_cons pe_int (pa_cons pe_int (pa_cons pe_int pa_nil)))) (pe_op op_rep (pe_lst (pa_cons pe_int (pa_cons pe_int (pa_cons pe_int pa_nil)))) pe_int)) pa_nil))) pa_nil))) pa_nil))))) (pss_one (ps_ret pe_bl)) pss_nil)
      (pss_cons (ps_set (i := 7) sc_law.nd rfl (Or.inl rfl) (pe_ix ix_list (pv 6) (pe_ix ix_list (pv 5) pe_int (fun _ _ => rfl)) (fun _ _ => rfl)))
      (pss_cons (ps_if (pt_cmpR op_eq (pe_callB call_len_seq (by rfl) T.len boot_len (pa_cons (pv 7) pa_nil)) pe_int (nomark _)) (pss_one (ps_ret pe_bl)) pss_nil)
      (pss_cons (ps_for PassesOwn.never rfl (pi_list (pe_dn D_law_changed hr (by decide) rfl (pa_cons (pv 4) (pa_cons (pv 7) (pa_cons (pe_slice sl_list (pv 5) (po_some pe_int) po_none) pa_nil))))) (pg_name (i := 8) sc_law.nd rfl (Or.inl rfl))
        (pss_one (ps_if (pt_not (pt_val (pe_dn D_law_same hr (by decide) rfl (pa_cons (pv 4) (pa_cons (pv 8) pa_nil))))) (pss_one (ps_ret pe_bl)) pss_nil)))
      (pss_cons (ps_set (i := 9) sc_law.nd rfl (Or.inl rfl) (pe_op op_mod (pe_callTy call_int1 (by rfl) T.int_ (by decide +kernel) (pa_cons (pe_ix ix_list (pv 5) pe_int (fun _ _ => rfl)) pa_nil)) (pe_callB call_len_seq (by rfl) T.len boot_len (pa_cons (pv 7) pa_nil))))
      (pss_cons (ps_if (pt_cmpR op_gt (pe_op op_sub (pe_op op_add (pe_callB call_len_str (by rfl) T.len boot_len (pa_cons (pv 4) pa_nil)) (pe_ix ix_tup (pe_ix ix_list (pv 7) (pv 9) (fun _ _ => rfl)) pe_int (fun _ _ => rfl))) (pe_ix ix_tup (pe_ix ix_list (pv 7) (pv 9) (fun _ _ => rfl)) pe_int (fun _ _ => rfl))) pe_int (nomark _)) (pss_one (ps_ret pe_bl)) pss_nil)
      (pss_one (ps_ret (pe_dn D_law_twice_told hr (by decide) rfl (pa_cons (pv 4) (pa_cons (pv 7) (pa_cons (pv 9) (pa_cons (pe_op op_mod (pe_callTy call_int1 (by rfl) T.int_ (by decide +kernel) (pa_cons (pe_ix ix_list (pv 5) pe_int (fun _ _ => rfl)) pa_nil)) (pe_op op_add (pe_callB call_len_seq (by rfl) T.len boot_len (pa_cons (pv 7) pa_nil)) pe_int)) pa_nil))))))))))))))))))))))), ?_⟩
    -- drawn
    refine q_call2L (ev_call (ea_cons (ev_var rfl) (ea_cons ev_c ea_nil)) (sv_cell (K := K) (ex_l (Ex.refl H) hS) (by decide) (by decide))) (el_lst (ea_cons ev_c (ea_cons ev_c (ea_cons ev_c (ea_cons ev_c (ea_cons ev_c (ea_cons ev_c (ea_cons ev_c (ea_cons ev_c (ea_cons ev_c (ea_cons ev_c (ea_cons ev_c (ea_cons ev_c (ea_cons ev_c (ea_cons ev_c ea_nil)))))))))))))) (by show 14 ≤ 100000; decide)) (fun p H1 hp e => sl_digits (ss := S14) (sq_of hp) ok14) fun dr H1 _ e1 hdr => ?_
    have w14 : Within (digitsF (cellF ns 0) S14) S14 := digits_in _ _ (pos_of ok14)
    revert w14 hdr
    generalize digitsF (cellF ns 0) S14 = d0
    intro hdr w14
    have l14 : d0.length = 14 := w14.len
    -- abc
    refine q_alp (ev_var rfl) ev_c (sq_of hdr) (by omega) (w14.get 0 (by decide)).1 (w14.get 0 (by decide)).2 fun abc H2 la1 la6 e2 => ?_
    refine q_cutIf (fun σ' H' => ∃ abc : List Nat, σ' = [some (.ref a), some (.ref dr), some (.str (S abc)), none, none, none, none, none, none, none, none] ∧ Ex H1 H' ∧ 1 ≤ abc.length ∧ abc.length ≤ 100) (et_test (ev_op (ev_op (ev_var rfl) ev_c (rv_ixL (K := K) (sq_of (e2 _ _ hdr)) (at_d (i := 7) (by omega)))) ev_c rv_I0)) (fun _ H3 e3 => ?_) (fun H3 e3 => ⟨abc, rfl, e2.trans e3, la1, by omega⟩) ?_
    · have hdr3 := e3 _ _ (e2 _ _ hdr)
      have g0 : 0 ≤ d0.getD 0 0 ∧ d0.getD 0 0 < 12 := w14.get 0 (by decide)
      have hsl : ∀ z ∈ cutL d0 (some 8) (some (9 + d0.getD 0 0 / 2)), 0 ≤ z ∧ z < 95 := fun z hz => by
        rw [cutL_mid (by decide) (by omega)] at hz
        exact within_mem (within_drop 8 w14) (by decide) z (List.mem_of_mem_take hz)
      have hln : 1 ≤ (cutL d0 (some 8) (some (9 + d0.getD 0 0 / 2))).length ∧ (cutL d0 (some 8) (some (9 + d0.getD 0 0 / 2))).length ≤ 14 := by
        refine ⟨?_, by have := cutL_len d0 (some 8) (some (9 + d0.getD 0 0 / 2)); omega⟩
        rw [cutL_mid (by decide) (by omega), List.length_take, List.length_drop, l14]
        have : (8 : Int).toNat = 8 := rfl
        omega
      exact s_callL (el_sl (K := K) (ev_var rfl) (eo_some ev_c) (eo_some (ev_op ev_c (ev_op (ev_op (ev_var rfl) ev_c (rv_ixL (K := K) (sq_of hdr3) (at_d (i := 0) (by omega)))) ev_c (rv_I ⟨by decide, by decide⟩)) rv_I0)) (sq_of hdr3)) fun p H4 hp4 e4 => ⟨p, cutL d0 (some 8) (some (9 + d0.getD 0 0 / 2)), rfl, by rw [← cutL_ints]; exact sq_of hp4, hsl, by omega, fun l hl H5 e5 => ⟨l, rfl, ((e2.trans e3).trans e4).trans e5, by omega, by omega⟩⟩
    clear la1 la6 e2
    rintro σ' H2 ⟨abc, rfl, e2, la1, la6⟩
    have e12 := e1.trans e2
    -- marks
    refine q_call2L (xs := Sm.map V.int) (ev_call (ea_cons (ev_var rfl) (ea_cons ev_c ea_nil)) (sv_cell (K := K) (ex_l e12 hS) (by decide) (by decide))) (by
      rw [← e_m]
      exact el_rep (el_lst (ea_cons ev_c ea_nil) (by show 1 ≤ 100000; decide)) (fun _ _ => ev_c) (by decide) (by decide) (by decide)) (fun p H1 hp e => sl_digits (ss := Sm) (sq_of hp) okm) fun mk H3 _ e3 hmk => ?_
    have lm : (digitsF (cellF ns 1) Sm).length = 400 := by rw [digits_len]; rfl
    revert lm hmk
    generalize digitsF (cellF ns 1) Sm = ms
    intro hmk lm
    have e13 := e12.trans e3
    have wt : Within (digitsF (cellF ns 2) St) St := digits_in _ _ (pos_of okt)
    have lt : (digitsF (cellF ns 2) St).length = 405 := wt.len
    -- line
    refine q_call3L (xs := (digitsF (cellF ns 2) St).map V.int) (ev_var rfl) (el_call2 (xs := St.map V.int) (ev_call (ea_cons (ev_var rfl) (ea_cons ev_c ea_nil)) (sv_cell (K := K) (ex_l e13 hS) (by decide) (by decide))) (by
      rw [← e_t]
      exact el_cat (el_lst (ea_cons ev_c (ea_cons ev_c (ea_cons ev_c (ea_cons ev_c (ea_cons ev_c ea_nil))))) (by show 5 ≤ 100000; decide)) (el_rep (el_lst (ea_cons ev_c ea_nil) (by show 1 ≤ 100000; decide)) (fun _ _ => ev_c) (by decide) (by decide) (by decide)) (by decide)) (fun p H1 hp e => sl_digits (ss := St) (sq_of hp) okt)) (fun _ _ => ev_c) fun p H4 hp4 e4 => ⟨abc, p, _, rfl, la1, la6, sq_of hp4, lt, wt.get 1 (by decide), wt.get 4 (by decide), fun line hln H5 e5 => ?_⟩
    have e35 := e4.trans e5
    have hdr5 := e35 _ _ (e3 _ _ (e2 _ _ hdr))
    refine q_cutIf (fun σ' H' => ∃ line : List Nat, σ' = [some (.ref a), some (.ref dr), some (.str (S abc)), some (.ref mk), some (.str (S line)), none, none, none, none, none, none] ∧ Ex H3 H' ∧ line.length ≤ 400) (et_test (ev_op (ev_op (ev_var rfl) ev_c (rv_ixL (K := K) (sq_of hdr5) (at_d (i := 7) (by omega)))) ev_c (rv_eq rfl))) (fun _ H6 e6 => ?_) (fun H6 e6 => ⟨line, rfl, e35.trans e6, hln⟩) ?_
    · have wg : Within (digitsF (cellF ns 5) Sg) Sg := digits_in _ _ (pos_of okg)
      have hsl : ∀ z ∈ cutL (digitsF (cellF ns 5) Sg) none (some (line.length : Int)), 0 ≤ z ∧ z < 95 := fun z hz => by
        rw [cutL_to (by omega)] at hz
        exact within_mem wg (by decide +kernel) z (List.mem_of_mem_take hz)
      have hcl : (cutL (digitsF (cellF ns 5) Sg) none (some (line.length : Int))).length ≤ 400 := by
        rw [cutL_to (by omega), List.length_take]
        omega
      exact s_callL (el_slN (K := K) (xs := (digitsF (cellF ns 5) Sg).map V.int) (el_call2 (xs := Sg.map V.int) (ev_call (ea_cons (ev_var rfl) (ea_cons ev_c ea_nil)) (sv_cell (K := K) (ex_l ((e13.trans e35).trans e6) hS) (by decide) (by decide))) (by
        rw [← e_g]
        exact el_rep (el_lst (ea_cons ev_c ea_nil) (by show 1 ≤ 100000; decide)) (fun _ _ => ev_c) (by decide) (by decide) (by decide)) (fun p H1 hp e => sl_digits (ss := Sg) (sq_of hp) okg)) (fun _ _ => eo_none) (fun _ _ => eo_some (ev_lenSS (ev_var rfl) (by omega)))) fun p H7 hp7 e7 => ⟨p, cutL (digitsF (cellF ns 5) Sg) none (some (line.length : Int)), rfl, by rw [← cutL_ints]; exact sq_of hp7, hsl, by omega, fun l hl H8 e8 => ⟨l, rfl, ((e35.trans e6).trans e7).trans e8, by omega⟩⟩
    clear hln hdr5 e35 e5 e4 hp4
    clear line
    rintro σ' H4 ⟨line, rfl, e4, hln⟩
    have e14 := e13.trans e4
    -- digits
    refine q_call2L (ev_call (ea_cons (ev_var rfl) (ea_cons ev_c ea_nil)) (sv_cell (K := K) (ex_l e14 hS) (by decide) (by decide))) (el_lst (ea_cons ev_c (ea_cons ev_c (ea_cons ev_c (ea_cons ev_c (ea_cons ev_c (ea_cons ev_c (ea_cons ev_c ea_nil))))))) (by show 7 ≤ 100000; decide)) (fun p H1 hp e => sl_digits (ss := S7) (sq_of hp) ok7) fun dg H5 _ e5 hdg => ?_
    have w7 : Within (digitsF (cellF ns 3) S7) S7 := digits_in _ _ (pos_of ok7)
    revert w7 hdg
    generalize digitsF (cellF ns 3) S7 = d7
    intro hdg w7
    have l7 : d7.length = 7 := w7.len
    have e15 := e14.trans e5
    have hmk5 := e5 _ _ (e4 _ _ hmk)
    have g1 : 0 ≤ d7.getD 1 0 ∧ d7.getD 1 0 < 9 := w7.get 1 (by decide)
    have g2 : 0 ≤ d7.getD 2 0 ∧ d7.getD 2 0 < 3 := w7.get 2 (by decide)
    -- rows
    refine q_asgRows (G := G0 line) (ewa_cons (ew_mk (K := K) (ev_var rfl) (ev_var rfl) (ev_op (ev_var rfl) ev_c (rv_ixL (K := K) (sq_of hdg) (at_d (i := 6) (by omega)))) (sq_of hmk5) (by omega) hln) (ewa_cons (ew_sh (ev_var rfl) ev_c ev_c (by decide) (by decide) (by decide) hln) ewa_nil)) (by decide) fun rp H6 nrp e6 hrs => ?_
    have nR : H rp = none := fresh_back e15 nrp
    have n5 : H5 rp = none := nrp
    have hdg6 := e6 _ _ hdg
    have lp : (0 : Int) < (line.length : Int) + 1 := by omega
    refine q_appW (K := K) hrs (by decide) (ev_var rfl) (fun H7 e7 Q7 q7 => ew_sh (a := d7.getD 0 0 % ((line.length : Int) + 1)) (m := 1 + d7.getD 1 0) (ev_var rfl) (ev_op (ev_int (ev_op (ev_var rfl) ev_c (rv_ixL (K := K) (sq_of hdg6) (at_d (i := 0) (by omega))))) (ev_op (ev_lenSS (ev_var rfl) (by omega)) ev_c rv_I0) (rv_I (by exact lp))) (ev_op ev_c (ev_op (ev_var rfl) ev_c (rv_ixL (K := K) (sq_of hdg6) (at_d (i := 1) (by omega)))) rv_I0) (Int.emod_nonneg (d7.getD 0 0) (show (line.length : Int) + 1 ≠ 0 by omega)) (by omega) (by omega) hln H7 e7 Q7 fun p H8 row e8 hR hG => q7 p H8 row (row_ne (hrs.ex (e7.trans e8)) (by decide) hR) e8 hR hG) fun H7 o e7 hrs => ?_
    have eC : Ex H5 (upd H7 rp o) := Ex.mut (e6.trans e7) n5
    revert hrs eC
    generalize upd H7 rp o = H8
    intro hrs eC
    have e18 := e15.trans eC
    have hdg8 := eC _ _ hdg
    -- the rows, and longer ones
    refine q_forRows (K := K) (G := G0 line) (eg_more (ev_var rfl) hrs (by decide) ⟨rfl, by decide⟩) (fun σ' => ∃ x y z u : Option V, σ' = [some (.ref a), some (.ref dr), some (.str (S abc)), some (.ref mk), some (.str (S line)), some (.ref dg), some (.ref rp), x, y, z, u]) ⟨none, none, none, none, rfl⟩ ?_ ?_
    · rintro Hb eb q1 row σ' H' ⟨x, y, z, u, rfl⟩ e hR ⟨hg, hl⟩
      refine q_when (b := !true || !true) (et_or (et_not (et_B (ev_is (ev_call (ea_cons (ev_var rfl) (ea_cons (ev_var rfl) ea_nil)) (sv_rd (by omega) (by omega) hR)) (by rw [hg])))) fun _ => et_not (et_B (ev_call (ea_cons (ev_var rfl) (ea_cons (ev_var rfl) ea_nil)) (sv_sm (by omega) (by omega) hR)))) (fun hb H9 e9 => ?_) (fun _ H9 e9 => ?_)
      · simp at hb
      refine s_forRows (K := K) (G := fun r => r.length ≤ 1000) (eg_lo (ev_var rfl) (ev_var rfl) (by omega) (hR.ex e9) (by omega)) (fun σ' => ∃ y z u : Option V, σ' = [some (.ref a), some (.ref dr), some (.str (S abc)), some (.ref mk), some (.str (S line)), some (.ref dg), some (.ref rp), some (.ref q1), y, z, u]) ⟨y, z, u, rfl⟩ ?_ ?_
      · rintro Hc ec q2 row2 σ2 H10 ⟨y, z, u, rfl⟩ e10 hR2 hl2
        refine s_when (b := !true) (et_not (et_B (ev_call (ea_cons (ev_var rfl) (ea_cons (ev_var rfl) ea_nil)) (sv_sm (by omega) (by omega) hR2)))) (fun hb H11 e11 => ?_) (fun _ H11 e11 => ⟨⟨_, _, _, rfl⟩, e10.trans e11⟩)
        simp at hb
      · rintro σ2 H10 ⟨y, z, u, rfl⟩ e10
        exact ⟨⟨_, _, _, _, rfl⟩, (e.trans e9).trans e10⟩
    rintro σ' H9 ⟨x, y, z, u, rfl⟩ e9
    have e19 := e18.trans e9
    have hdg9 := e9 _ _ hdg8
    have wr : Within (digitsF (cellF ns 4) Sr) Sr := digits_in _ _ (pos_of okr)
    have lr : (digitsF (cellF ns 4) Sr).length = 1203 := by rw [wr.len]; decide +kernel
    -- any row
    refine q_when (b := !true) (et_not (et_B (ev_call2W (ev_var rfl) (ew_ar (K := K) (rs := digitsF (cellF ns 4) Sr) (ev_var rfl) (el_call2 (xs := Sr.map V.int) (ev_call (ea_cons (ev_var rfl) (ea_cons ev_c ea_nil)) (sv_cell (K := K) (ex_l e19 hS) (by decide) (by decide))) (by
      rw [← e_r]
      exact el_cat (el_lst (ea_cons ev_c (ea_cons ev_c (ea_cons ev_c ea_nil))) (by show 3 ≤ 100000; decide)) (el_rep (el_lst (ea_cons ev_c (ea_cons ev_c (ea_cons ev_c ea_nil))) (by show 3 ≤ 100000; decide)) (fun _ _ => ev_c) (by decide) (by decide) (by decide)) (by decide)) (fun p H1 hp e => sl_digits (ss := Sr) (sq_of hp) okr)) (by omega) lr (wr.get 0 (by decide +kernel))) fun p H10 row e10 hR hl => sv_sm (by omega) (by omega) hR))) (fun hb H10 e10 => ?_) (fun _ H10 e10 => ?_)
    · simp at hb
    have e110 := e19.trans e10
    have hdg10 := e10 _ _ hdg9
    -- row
    refine q_rowAt (K := K) ((hrs.ex e9).ex e10) g2.1 (by show _ < ((0 + 1 + 1 + 1 : Nat) : Int); omega) (ev_var rfl) (ev_op (ev_var rfl) ev_c (rv_ixL (K := K) (sq_of hdg10) (at_d (i := 2) (by omega)))) fun q1 row H11 e11 hR hGr => ?_
    obtain ⟨hg, hl⟩ := hGr
    have e111 := e110.trans e11
    have hdg11 := e11 _ _ hdg10
    refine q_when (et_test (ev_op (ev_lenR (K := K) hR (ev_var rfl)) ev_c (rv_eq rfl))) (fun hb H12 e12 => ?_) (fun hb H12 e12 => ?_)
    · exact s_ret ev_c fun H13 _ => q H13
    have hne : 1 ≤ row.length := by
      have := of_decide_eq_false hb
      by_cases c : row.length = 0
      · rw [c] at this; exact absurd rfl this
      · omega
    have hR12 := hR.ex e12
    have hdg12 := e12 _ _ hdg11
    -- changed rows
    refine q_forRows (K := K) (G := fun r => r.length ≤ 1000) (eg_ch (K := K) (ds := cutL d7 (some 3) none) (ev_var rfl) (ev_var rfl) (by rw [← cutL_ints]; exact el_sl (ev_var rfl) (eo_some ev_c) eo_none (sq_of hdg12)) (by omega) hR12 hne (by omega) (by rw [cutL_from (by decide), List.length_drop, l7]; decide)) (fun σ' => ∃ y z u : Option V, σ' = [some (.ref a), some (.ref dr), some (.str (S abc)), some (.ref mk), some (.str (S line)), some (.ref dg), some (.ref rp), some (.ref q1), y, z, u]) ⟨y, z, u, rfl⟩ ?_ ?_
    · rintro Hc ec q2 row2 σ2 H13 ⟨y, z, u, rfl⟩ e13 hR2 hl2
      refine s_when (b := !true) (et_not (et_B (ev_call (ea_cons (ev_var rfl) (ea_cons (ev_var rfl) ea_nil)) (sv_sm (by omega) (by omega) hR2)))) (fun hb H14 e14 => ?_) (fun _ H14 e14 => ⟨⟨_, _, _, rfl⟩, e13.trans e14⟩)
      simp at hb
    rintro σ' H13 ⟨y, z, u, rfl⟩ e13
    have hR13 := hR12.ex e13
    have hdg13 := e13 _ _ hdg12
    have lrp : (0 : Int) < (row.length : Int) := by omega
    refine q_asg (ev_op (ev_int (ev_op (ev_var rfl) ev_c (rv_ixL (K := K) (sq_of hdg13) (at_d (i := 3) (by omega))))) (ev_lenR (K := K) hR13 (ev_var rfl)) (rv_I lrp)) fun H14 e14 => ?_
    obtain ⟨kN, hkN, hk1⟩ : ∃ kN : Nat, d7.getD 3 0 % (row.length : Int) = (kN : Int) ∧ kN < row.length := by
      have a := Int.emod_nonneg (d7.getD 3 0) (show (row.length : Int) ≠ 0 by omega)
      have b := Int.emod_lt_of_pos (d7.getD 3 0) lrp
      exact ⟨(d7.getD 3 0 % (row.length : Int)).toNat, by omega, by omega⟩
    rw [hkN]
    have hR14 := hR13.ex e14
    refine q_when (et_test (ev_op (ev_op (ev_op (ev_lenSS (ev_var rfl) (by omega)) (ev_stop (K := K) hR14 (ixN_nat hk1) (ev_var rfl) (ev_var rfl)) rv_I0) (ev_start (K := K) hR14 (ixN_nat hk1) (ev_var rfl) (ev_var rfl)) rv_I0) ev_c rv_I0)) (fun _ H15 e15 => ?_) (fun _ H15 e15 => ?_)
    · exact s_ret ev_c fun H16 _ => q H16
    have hR15 := hR14.ex e15
    have hdg15 := e15 _ _ (e14 _ _ hdg13)
    have lrp1 : (0 : Int) < (row.length : Int) + 1 := by omega
    obtain ⟨jN, hjN, hj1⟩ : ∃ jN : Nat, d7.getD 4 0 % ((row.length : Int) + 1) = (jN : Int) ∧ jN ≤ row.length := by
      have a := Int.emod_nonneg (d7.getD 4 0) (show (row.length : Int) + 1 ≠ 0 by omega)
      have b := Int.emod_lt_of_pos (d7.getD 4 0) lrp1
      exact ⟨(d7.getD 4 0 % ((row.length : Int) + 1)).toNat, by omega, by omega⟩
    exact s_ret (ev_call (vs := [.str (S line), .ref q1, .int (kN : Int), .int (jN : Int)]) (ea_cons (ev_var rfl) (ea_cons (ev_var rfl) (ea_cons (ev_var rfl) (ea_cons (ev_is (ev_op (ev_int (ev_op (ev_var rfl) ev_c (rv_ixL (K := K) (sq_of hdg15) (at_d (i := 4) (by omega))))) (ev_op (ev_lenR (K := K) hR15 (ev_var rfl)) ev_c rv_I0) (rv_I lrp1)) (congrArg V.int hjN)) ea_nil)))) (fun H16 e16 Q16 q16 _ => ⟨line, q1, row, kN, jN, rfl, hR15.ex e16, hg, hk1, hj1, by omega, by omega, q16⟩)) fun H16 _ => q H16
end
end My

set_option Elab.async false
set_option linter.all false
set_option maxRecDepth 100000
set_option maxHeartbeats 0
namespace My
open PySem PySem.Spec PyProof.Rows L2 Evl
def d_are_unlike : He.DefD := ⟨("are_unlike", none), "are_unlike", "are_unlike", defArgs s_are_unlike, defBody s_are_unlike, defScope s_are_unlike, [], []⟩
def d_law_cell : He.DefD := ⟨("_law_cell", none), "_law_cell", "_law_cell", defArgs s_law_cell, defBody s_law_cell, defScope s_law_cell, [], []⟩
def d_law_digits : He.DefD := ⟨("_law_digits", none), "_law_digits", "_law_digits", defArgs s_law_digits, defBody s_law_digits, defScope s_law_digits, [], []⟩
def d_law_alphabet : He.DefD := ⟨("_law_alphabet", none), "_law_alphabet", "_law_alphabet", defArgs s_law_alphabet, defBody s_law_alphabet, defScope s_law_alphabet, [], []⟩
def d_law_signs : He.DefD := ⟨("_law_signs", none), "_law_signs", "_law_signs", defArgs s_law_signs, defBody s_law_signs, defScope s_law_signs, [], []⟩
def d_law_doubling : He.DefD := ⟨("_law_doubling", none), "_law_doubling", "_law_doubling", defArgs s_law_doubling, defBody s_law_doubling, defScope s_law_doubling, [], []⟩
def d_law_two_before : He.DefD := ⟨("_law_two_before", none), "_law_two_before", "_law_two_before", defArgs s_law_two_before, defBody s_law_two_before, defScope s_law_two_before, [], []⟩
def d_law_counted : He.DefD := ⟨("_law_counted", none), "_law_counted", "_law_counted", defArgs s_law_counted, defBody s_law_counted, defScope s_law_counted, [], []⟩
def d_law_any_text : He.DefD := ⟨("_law_any_text", none), "_law_any_text", "_law_any_text", defArgs s_law_any_text, defBody s_law_any_text, defScope s_law_any_text, [], []⟩
def d_law_marked : He.DefD := ⟨("_law_marked", none), "_law_marked", "_law_marked", defArgs s_law_marked, defBody s_law_marked, defScope s_law_marked, [], []⟩
def d_law_shortest : He.DefD := ⟨("_law_shortest", none), "_law_shortest", "_law_shortest", defArgs s_law_shortest, defBody s_law_shortest, defScope s_law_shortest, [], []⟩
def d_law_reading : He.DefD := ⟨("_law_reading", none), "_law_reading", "_law_reading", defArgs s_law_reading, defBody s_law_reading, defScope s_law_reading, [], []⟩
def d_law_put : He.DefD := ⟨("_law_put", none), "_law_put", "_law_put", defArgs s_law_put, defBody s_law_put, defScope s_law_put, [], []⟩
def d_law_changed : He.DefD := ⟨("_law_changed", none), "_law_changed", "_law_changed", defArgs s_law_changed, defBody s_law_changed, defScope s_law_changed, [], []⟩
def d_law_any_row : He.DefD := ⟨("_law_any_row", none), "_law_any_row", "_law_any_row", defArgs s_law_any_row, defBody s_law_any_row, defScope s_law_any_row, [], []⟩
def d_law_longer : He.DefD := ⟨("_law_longer", none), "_law_longer", "_law_longer", defArgs s_law_longer, defBody s_law_longer, defScope s_law_longer, [], []⟩
def d_law_same : He.DefD := ⟨("_law_same", none), "_law_same", "_law_same", defArgs s_law_same, defBody s_law_same, defScope s_law_same, [], []⟩
def d_law_twice_told : He.DefD := ⟨("_law_twice_told", none), "_law_twice_told", "_law_twice_told", defArgs s_law_twice_told, defBody s_law_twice_told, defScope s_law_twice_told, [], []⟩
def d_law : He.DefD := ⟨("law", none), "law", "law", defArgs s_law, defBody s_law, defScope s_law, [], []⟩
def fn : List He.DefD := [d_are_unlike, d_law_cell, d_law_digits, d_law_alphabet, d_law_signs, d_law_doubling, d_law_two_before, d_law_counted, d_law_any_text, d_law_marked, d_law_shortest, d_law_reading, d_law_put, d_law_changed, d_law_any_row, d_law_longer, d_law_same, d_law_twice_told, d_law]
def fa : List He.Fa := [.glo "are_unlike", .glo "_law_cell", .glo "_law_digits", .glo "_law_alphabet", .glo "_law_signs", .glo "_law_doubling", .glo "_law_two_before", .glo "_law_counted", .glo "_law_any_text", .glo "_law_marked", .glo "_law_shortest", .glo "_law_reading", .glo "_law_put", .glo "_law_changed", .glo "_law_any_row", .glo "_law_longer", .glo "_law_same", .glo "_law_twice_told", .glo "law", .free "len", .free "int", .free "bool", .free "str", .free "list", .free "tuple", .free "range", .free "max", .free "min", .free "sum", .free "isinstance", .free "sorted", .free "repr", .free "abs", .free "enumerate"]
abbrev R : PySem.W.OpenRow := PySem.W.OpenLaw.row PySem.Challenge.rw_unpressed_k11_unlike_rows_judged
abbrev hk : PySem.W.Hook := He.hookD 4 fa fn
def ob (s : PySem.W.SharedT) : He.AlD := He.obsDG 4 fa fn (HandSHeadRun.getT s)
theorem ob_eq (s : PySem.W.SharedT) : ob s = hk.obs s.abs := He.obsDG_eq (HandSHeadRun.getT_eq s)
abbrev loose : List Str := ["are_unlike", "_law_cell", "_law_digits", "_law_alphabet", "_law_signs", "_law_doubling", "_law_two_before", "_law_counted", "_law_any_text", "_law_marked", "_law_shortest", "_law_reading", "_law_put", "_law_changed", "_law_any_row", "_law_longer", "_law_same", "_law_twice_told"]
theorem run (w : World) : HandSHeadRun.RunEq R (PySem.W.view R.prog [20]) hk ob 3000 loose w := by
  intro os
  kernel_rfl
theorem at_of {K : PySem.W.Frag} {mg : Str → Option Value} {h : Heap} (X : K.In h) (G : h.Ns mainGlobals mg) (c : He.SaysD fa fn K) (i : Nat) {x : Str} {st : Stmt} (h1 : fn[i]? = some ⟨(x, none), x, x, defArgs st, defBody st, defScope st, [], []⟩) (h2 : fa[i]? = some (.glo x)) : At K mg x st := by
  obtain ⟨fd, F⟩ := c.def_ i h1
  exact ⟨_, fd, F, He.glo_ok X G (c.fact i h2)⟩
theorem tt_of {K : PySem.W.Frag} {mg : Str → Option Value} {h : Heap} (X : K.In h) (G : h.Ns mainGlobals mg) (c : He.SaysD fa fn K) : TT mg := ⟨He.free_ok X G (c.fact 19 (f := .free "len") rfl), He.free_ok X G (c.fact 20 (f := .free "int") rfl), He.free_ok X G (c.fact 21 (f := .free "bool") rfl), He.free_ok X G (c.fact 22 (f := .free "str") rfl), He.free_ok X G (c.fact 23 (f := .free "list") rfl), He.free_ok X G (c.fact 24 (f := .free "tuple") rfl), He.free_ok X G (c.fact 25 (f := .free "range") rfl), He.free_ok X G (c.fact 26 (f := .free "max") rfl), He.free_ok X G (c.fact 27 (f := .free "min") rfl), He.free_ok X G (c.fact 28 (f := .free "sum") rfl), He.free_ok X G (c.fact 29 (f := .free "isinstance") rfl), He.free_ok X G (c.fact 30 (f := .free "sorted") rfl), He.free_ok X G (c.fact 31 (f := .free "repr") rfl), He.free_ok X G (c.fact 32 (f := .free "abs") rfl), He.free_ok X G (c.fact 33 (f := .free "enumerate") rfl)⟩

theorem facts {P : Program} {w : World} {K : PySem.W.Frag} {h : Heap} {mg : Str → Option Value} {f : Addr} (X : K.In h) (G : h.Ns mainGlobals mg) (hfa : mg ("law" : Str) = some (.ref f)) (c : He.SaysD fa fn K) :
    ∃ fd : FuncData, (∀ (s : Shared) (v : Value), BindsTo s fd ⟨[v], []⟩ [("script", v)]) ∧ ∀ base : Heap, K.In base → base.Ns mainGlobals mg → FnOk P w K mg base CX0 4 f fd ["script"] (spLaw K) := by
  have A_are_unlike : At K mg "are_unlike" s_are_unlike := at_of X G c 0 rfl rfl
  have A_law_cell : At K mg "_law_cell" s_law_cell := at_of X G c 1 rfl rfl
  have A_law_digits : At K mg "_law_digits" s_law_digits := at_of X G c 2 rfl rfl
  have A_law_alphabet : At K mg "_law_alphabet" s_law_alphabet := at_of X G c 3 rfl rfl
  have A_law_signs : At K mg "_law_signs" s_law_signs := at_of X G c 4 rfl rfl
  have A_law_doubling : At K mg "_law_doubling" s_law_doubling := at_of X G c 5 rfl rfl
  have A_law_two_before : At K mg "_law_two_before" s_law_two_before := at_of X G c 6 rfl rfl
  have A_law_counted : At K mg "_law_counted" s_law_counted := at_of X G c 7 rfl rfl
  have A_law_any_text : At K mg "_law_any_text" s_law_any_text := at_of X G c 8 rfl rfl
  have A_law_marked : At K mg "_law_marked" s_law_marked := at_of X G c 9 rfl rfl
  have A_law_shortest : At K mg "_law_shortest" s_law_shortest := at_of X G c 10 rfl rfl
  have A_law_reading : At K mg "_law_reading" s_law_reading := at_of X G c 11 rfl rfl
  have A_law_put : At K mg "_law_put" s_law_put := at_of X G c 12 rfl rfl
  have A_law_changed : At K mg "_law_changed" s_law_changed := at_of X G c 13 rfl rfl
  have A_law_any_row : At K mg "_law_any_row" s_law_any_row := at_of X G c 14 rfl rfl
  have A_law_longer : At K mg "_law_longer" s_law_longer := at_of X G c 15 rfl rfl
  have A_law_same : At K mg "_law_same" s_law_same := at_of X G c 16 rfl rfl
  have A_law_twice_told : At K mg "_law_twice_told" s_law_twice_told := at_of X G c 17 rfl rfl
  have A_law : At K mg "law" s_law := at_of X G c 18 rfl rfl
  have T : TT mg := tt_of X G c
  obtain ⟨f0, fd, F, hm⟩ := A_law.ex
  have e := hfa.symm.trans hm
  cases e
  have b := FunD.bindsA (ps := ["script"]) F fun _ _ _ _ _ _ us hl => match us, hl with | [_], _ => rfl
  refine ⟨fd, fun s v => b s [v] rfl, fun base _ _ => ?_⟩
  have D1 := ok_are_unlike (P := P) (w := w) (base := base) T A_are_unlike
  have D2 := ok_law_cell (P := P) (w := w) (base := base) T A_law_cell
  have D3 := ok_law_digits (P := P) (w := w) (base := base) T A_law_digits
  have D4 := ok_law_alphabet (P := P) (w := w) (base := base) T A_law_alphabet
  have D5 := ok_law_signs (P := P) (w := w) (base := base) T A_law_signs
  have D6 := ok_law_doubling (P := P) (w := w) (base := base) T A_law_doubling
  have D7 := ok_law_two_before (P := P) (w := w) (base := base) T A_law_two_before
  have D8 := ok_law_counted (P := P) (w := w) (base := base) T A_law_counted
  have D9 := ok_law_any_text T A_law_any_text D6 D7 D8
  have D10 := ok_law_marked (P := P) (w := w) (base := base) T A_law_marked
  have D11 := ok_law_shortest (P := P) (w := w) (base := base) T A_law_shortest
  have D12 := ok_law_reading (P := P) (w := w) (base := base) T A_law_reading
  have D13 := ok_law_put (P := P) (w := w) (base := base) T A_law_put
  have D14 := ok_law_changed T A_law_changed D13
  have D15 := ok_law_any_row (P := P) (w := w) (base := base) T A_law_any_row
  have D16 := ok_law_longer (P := P) (w := w) (base := base) T A_law_longer
  have D17 := ok_law_same T A_law_same D1 (kd_un D1) D12
  have D18 := ok_law_twice_told T A_law_twice_told D12 D17
  have DL := ok_law T A_law D2 D3 D4 D5 D9 D10 D11 D12 D17 D16 D15 D14 D18
  obtain ⟨f1, fd1, F1, FO, hm1, _⟩ := DL.ex
  have e := hm.symm.trans hm1
  cases e
  have e2 : fd = fd1 := fd_one F F1
  rw [e2]
  exact FO
end My
open PySem PySem.W PySem.Calls PyProof.Rows
theorem PySem.Challenge.cw_unpressed_k11_unlike_rows_judged_holds : PySem.Challenge.rw_unpressed_k11_unlike_rows_judged.Holds := by
  w_on; o_law
  refine HandSHeadRun.head_any (r := OpenLaw.row PySem.Challenge.rw_unpressed_k11_unlike_rows_judged) (q := view (OpenLaw.row PySem.Challenge.rw_unpressed_k11_unlike_rows_judged).prog [20]) (H := My.hk) (ob := My.ob) (M := 3000) (loose := My.loose) (d := HandSHeadRun.topDef (OpenLaw.row PySem.Challenge.rw_unpressed_k11_unlike_rows_judged).prog 20) (kwd := []) My.ob_eq
    (by kernel_rfl) (fun s => by kernel_rfl) My.run (by kernel_rfl) (by kernel_rfl) (by kernel_rfl) (by rfl) (by first | assumption | decide +kernel) (by decide +kernel) ⟨rfl, rfl, rfl, rfl, rfl, by decide +kernel⟩ ?hw ?hc
  case hw => w_witness2
  case hc =>
    refine L2.walk_ofE (l := PySem.Challenge.rw_unpressed_k11_unlike_rows_judged) (n := 63) (k := 4) (x := "script") (CX := L2.CX0) rfl (by decide) (by kernel_rfl) ⟨rfl, by decide, by decide⟩ ?F (fun _ _ _ _ z => z)
    intro w mg fa h Y G hmg0
    obtain ⟨K, KX, c⟩ := Y
    have hmg : mg ("law" : PySem.Str) = some (.ref fa) := by
      have e : (HandSHeadRun.topDef (OpenLaw.row PySem.Challenge.rw_unpressed_k11_unlike_rows_judged).prog 20).name = ("law" : PySem.Str) := by kernel_rfl
      rw [← e]
      exact hmg0
    obtain ⟨fd, hb, hF⟩ := My.facts (P := (PySem.Challenge.rw_unpressed_k11_unlike_rows_judged).prog) (w := w) KX G hmg c
    exact ⟨K, fd, My.spLaw K, KX, hb, fun H a ns hl _ hS => ⟨a, ns, rfl, hS, fun _ => rfl⟩, hF⟩
