import PyProof.Rows.All
import Wide.All
import OpenK.AllK
import Wide.FinOn
import HandS.ForMost
import HandS.Evl
import KE.KStateDown
import HandS.Wide
import HandS.WideBits
import HandS.StrMore
import HandS.SortInts
import HandS.IsInst
import HandS.FStr
import HandS.Conv
import HandS.Defaults
import HandS.WordsExc
import HandS.Head0
import HandS.Head1
import HandS.Head2
import HandS.HeadEnd
import HandS.HeadHook1
import HandS.HeadHook2
import HandS.Gcd
import HandS.Head3
import Flt.RightSqrt
import HandS.Codes
import HandS.Dict
import PyProof.StrOps2
import HandS.Words
import HandS.Flt
import HandS.RaiseMore
import HandS.HeadHook4
import PySem.Challenge.RW_unpressed_k54_floor_bits
set_option Elab.async false
set_option maxRecDepth 100000
set_option maxHeartbeats 4000000
namespace My
open PySem PySem.W PySem.Calls PyProof.Rows PySem.Builtin PySem.Builtin.Str PySem.Builtin.Int
/-- a number's digits to base two -/
def binT (n : Nat) : PySem.Str := ⟨((Nat.toDigits 2 n).map Char.toNat).toArray⟩
theorem fmt_b {a : Int} {t : Tok} (h0 : 0 ≤ a) (hL : (binT a.natAbs).length ≤ sizeLine) (u : Tok) : Meets («int.__format__» ⟨[.int a t, .str (⟨#[98]⟩ : PySem.Str) u], []⟩) (fun _ R s => ∀ t' k, R (.ok (.ret (.str (binT a.natAbs) t'))) { s with toks := k }) := by
  apply KPc.meets_of
  intro prog w A s Q E hq
  unfold Builtin.«int.__format__»
  refine wpAny_bind (wpAny_of_eq (a := (_, _)) rfl ?_)
  refine wpAny_bind (wpAny_of_eq (a := _) rfl ?_)
  kxf_if
  refine wpAny_bind (wpAny_typeNameOf (T := "str") (typeIs_str _ _ _) (by decide) fun _ => ?_)
  refine wpAny_bind (wpAny_of_eq (a := some _) rfl ?_)
  kxf_if
  kxf_if
  refine wpAny_bind (wpAny_typeNameOfCut_int ?_)
  (repeat kxf_if)
  refine (fun (e : _ = binT a.natAbs) => KXf.ret_text e (by rw [e]; exact hL) hq) ?e
  case e =>
    have hn : decide (a < 0) = false := decide_eq_false (by omega)
    have hD : Nat.toDigits 2 a.natAbs ≠ [] := Nat.toDigits_ne_nil
    rw [hn]
    unfold binT
    generalize Nat.toDigits 2 a.natAbs = D at hD ⊢
    conv => lhs; whnf
    have z : ∀ n : Nat, (-1 - (n : Int)).toNat = 0 := fun n => by omega
    simp [hD, Option.isNone, List.head?, z]
    trace_state
end My

set_option Elab.async false
set_option linter.all false
set_option maxRecDepth 100000
set_option maxHeartbeats 4000000
namespace My
open PySem PySem.Spec PyProof.Rows L2 Evl
/-! ### defs at their names -/
structure Dn (P : Program) (w : World) (K : PySem.W.Frag) (mg : Str → Option Value) (base : Heap) (k : Nat) (x : Str) (st : Stmt) (ps : List Str) (sp : Sp) : Prop where
  ex : ∃ (f : Addr) (fd : FuncData), FunD K x x (defArgs st) (defBody st) (defScope st) [] [] f fd ∧ FnOk P w K mg base CX0 k f fd ps sp ∧ mg x = some (.ref f) ∧ Binds K fd ps []
/-- the same for a call by keywords ks -/
structure Kd (P : Program) (w : World) (K : PySem.W.Frag) (mg : Str → Option Value) (base : Heap) (k : Nat) (x : Str) (n : Nat) (ks : List Str) (gV : List V → List V → List V) (sp : Sp) : Prop where
  ex : ∃ (f : Addr) (fd : FuncData) (ps : List Str) (g : List Value → List Value → List Value), FnOk P w K mg base CX0 k f fd ps sp ∧ mg x = some (.ref f) ∧ PySem.W.keepIn K (.ref f) = true ∧ KBn K fd ps n ks g gV
abbrev FnP (K : PySem.W.Frag) (x : Str) (st : Stmt) (f : Addr) (fd : FuncData) : Prop := FunD K x x (defArgs st) (defBody st) (defScope st) [] [] f fd
structure At (K : PySem.W.Frag) (mg : Str → Option Value) (x : Str) (st : Stmt) : Prop where
  ex : ∃ (f : Addr) (fd : FuncData), FnP K x st f fd ∧ mg x = some (.ref f)
section
variable {P : Program} {w : World} {K : PySem.W.Frag} {mg : Str → Option Value} {base : Heap} {x : Str} {st : Stmt} {N ps : List Str} {k : Nat} {sp : Sp}
theorem FunD.kbn {K : PySem.W.Frag} {x qual : Str} {params : Arguments} {body : List Stmt} {scope : Scope} {kws : List (Str × V)} {f : Addr} {fd : FuncData} {ps : List Str} (F : FunD K x qual params body scope [] kws f fd) (n : Nat) (ks : List Str) (g : List Value → List Value → List Value) (gV : List V → List V → List V)
    (h : ∀ (kV doc pm : Value) (an : Option Addr) (cdv ct : Value) (us ws : List Value), us.length = n → ws.length = ks.length → bindArgs (PySem.W.fnOf x qual params body scope .none kV doc pm an cdv ct) ⟨us, ks.zip ws⟩ = pure (ps.zip (g us ws)))
    (hr : ∀ {vs : List V} {us : List Value} {zs : List V} {ws : List Value}, Vals vs us → Vals zs ws → Vals (gV vs zs) (g us ws)) : KBn K fd ps n ks g gV := by
  obtain ⟨oc, od, dV, kV, doc, pm, an, cdv, ct, osl, rfl, lk, hcd, hD, hK⟩ := F.ex
  rcases hD with ⟨_, rfl⟩ | ⟨e, _⟩
  · exact ⟨fun s us ws _ l1 l2 => .of_eq (h kV doc pm an cdv ct us ws l1 l2), hr⟩
  · exact absurd rfl e
theorem dn_ok (F : At K mg x st) (S : FnScope N ps (defScope st))
    (hb : ∀ (kV doc pm : Value) (an : Option Addr) (cdv ct : Value) (us : List Value), us.length = ps.length → bindArgs (PySem.W.fnOf x x (defArgs st) (defBody st) (defScope st) .none kV doc pm an cdv ct) ⟨us, []⟩ = pure (ps.zip us))
    (len : ∀ vs H Q E, sp vs H Q E → vs.length = ps.length)
    (hbody : ∀ (f : Addr) (cdv : Value) (A : Around) (outer : List Env) (s : Shared) (H : Hp) (vs : List V) (Q : VK) (E : XK), Room k (A.deeper (envOfC x (defScope st) s.heap.objs.size f cdv)) → sp vs H Q E →
      ∃ t, PSs (cxOf CX0 P w K mg base N x (defScope st) f cdv A outer s H E).nox (defBody st) t ∧ t { nx := fun _ H' => Q .non H', rt := Q } (start N vs) H) : Dn P w K mg base (k + 1) x st ps sp := by
  obtain ⟨f, fd, F, g⟩ := F.ex
  refine ⟨f, fd, F, FunD.ok F S len (fun cdv A outer s H vs Q E hr h => ?_), g, F.bindsN hb⟩
  obtain ⟨t, h1, h2⟩ := hbody f cdv A outer s H vs Q E hr h
  exact ⟨t, PSs.nox h1, h2⟩
/-- one function object stands at one address -/
theorem fd_one {K : PySem.W.Frag} {x : Str} {st st' : Stmt} {f : Addr} {fd fd' : FuncData} (F : FnP K x st f fd) (F' : FnP K x st' f fd') : fd = fd' := by
  obtain ⟨oc, od, dV, kV, doc, pm, an, cdv, ct, osl, h1, lk, _⟩ := F.ex
  obtain ⟨oc2, od2, dV2, kV2, doc2, pm2, an2, cdv2, ct2, osl2, h2, lk2, _⟩ := F'.ex
  rw [lk] at lk2
  simp only [Option.some.injEq, Obj.mk.injEq, Data.func.injEq] at lk2
  exact lk2.2.2.1
/-- a call by keywords of a def that keeps its promise -/
theorem kd_of (D : Dn P w K mg base k x st ps sp) (n : Nat) (ks : List Str) (g : List Value → List Value → List Value) (gV : List V → List V → List V)
    (h : ∀ (kV doc pm : Value) (an : Option Addr) (cdv ct : Value) (us ws : List Value), us.length = n → ws.length = ks.length → bindArgs (PySem.W.fnOf x x (defArgs st) (defBody st) (defScope st) .none kV doc pm an cdv ct) ⟨us, ks.zip ws⟩ = pure (ps.zip (g us ws)))
    (hr : ∀ {vs : List V} {us : List Value} {zs : List V} {ws : List Value}, Vals vs us → Vals zs ws → Vals (gV vs zs) (g us ws)) : Kd P w K mg base k x n ks gV sp := by
  obtain ⟨f, fd, F, FO, g1, _⟩ := D.ex
  exact ⟨f, fd, ps, g, FO, g1, F.kp, FunD.kbn F n ks g gV h hr⟩
end
section
variable {X : Cx} {k j n : Nat} {x : Str} {p pos : Pos} {ps ks : List Str} {sp : Sp} {gV : List V → List V → List V} {e : Expr} {es : List Expr} {kws : List Keyword} {t tk : TA}
theorem pe_dn {st : Stmt} (D : Dn X.prog X.w X.K X.mg X.base k x st ps sp) (hr : Room j X.A) (hk : k ≤ j) (hg : Gl X x) (ha : PA X (e :: es) t) (hdb : (x == ("__debug__" : Str)) = false := by decide)
    (he : starEach (e :: es) X.env = (false, eval e X.env) :: starEach es X.env := by rfl) (hpl : (backTo pos (starEach es X.env)).any (·.1) = false := by rfl) : PE X (.Call (.Name x p) (e :: es) [] pos) (tCall sp [] E0 t) := by
  obtain ⟨f, fd, FD, F, hm, hb⟩ := D.ex
  exact pe_call F (hr.mono hk) hg hm FD.kp hb .nil pass0 ha (hdb := hdb) (he := he) (hpl := hpl)
theorem pe_kd (D : Kd X.prog X.w X.K X.mg X.base k x 0 ks gV sp) (hr : Room j X.A) (hk' : k ≤ j) (hg : Gl X x) (hkw : PK X kws tk)
    (hall : (backToKw pos (keywordEach kws X.env)).all (·.1.isSome) = true := by rfl) (hks : (backToKw pos (keywordEach kws X.env)).filterMap (·.1) = ks := by rfl)
    (hdb : (x == ("__debug__" : Str)) = false := by decide)
    (hpl : ((backTo pos (starEach [] X.env)).any (·.1) || (backToKw pos (keywordEach kws X.env)).any (·.1.isNone)) = false := by rfl) :
    PE X (.Call (.Name x p) [] kws pos) (tCallN 0 ks.length sp gV E0 tNil tk) := by
  obtain ⟨f, fd, ps, g, F, hm, hk, hb⟩ := D.ex
  refine ⟨fun pins s σ H Q I h => ?_⟩
  refine wpAny_Call_Name_kw (ld_glob I hg hm ?_ hdb)
  refine PySem.W.callWith_KW0 (h₀ := X.base) I.ok.mod.kin hk hall (thn (hkw.run pos pins s σ H _ I h) fun ws s2 ⟨zs, H2, I2, rz, l1, l2, q2⟩ => ⟨I2.kIn, ?_⟩) hpl
  rw [hks]
  exact run_fnN F (hr.mono hk') hb pass0 I2 .nil rz l1 l2 q2
/-- a built-in type by its name -/
theorem pe_tyn (T : String) {x : Str} {pos : Pos} (hg : Gl X x) (hm : X.mg x = none) (hv : bootBuiltins x = some (.type T)) (hn : x ≠ "__name__" := by decide) (hd : (x == ("__debug__" : Str)) = false := by decide) : PE X (.Name x pos) (tC (.ty T)) := pe_bltn hg hm hv (show RelV (.ty T) (.type T) from rfl) hn hd
/-- f'{x:b}' of a number not below 0 -/
def tFmtB (te : TE) : TE := fun σ H Q => te σ H fun x H1 => ∃ i : Int, x = .int i ∧ 0 ≤ i ∧ (binT i.natAbs).length ≤ sizeLine ∧ Q (.str (binT i.natAbs)) H1
theorem pe_fmtB {te : TE} {pos p1 p2 : Pos} {j : Nat} (he : PE X e te) : PE X (.FormattedValue e (-1) (some (.JoinedStr [.Constant (.str "b") j p1] p2)) pos) (tFmtB te) := by
  refine ⟨fun pins s σ H Q I h => ?_⟩
  refine wpAny_FormattedValue_spec (thn (he.run pins s σ H _ I h) fun v s1 hv => ?_)
  obtain ⟨x, H1, I1, r1, i, rfl, h0, hz, q⟩ := hv
  obtain ⟨t, rfl⟩ := r1
  have hs : PE X (.JoinedStr [.Constant (.str "b") j p1] p2) (tC (.str "b")) := pe_joined1 pe_str
  refine thn (hs.run pins s1 σ H1 (fun v H' => v = .str "b" ∧ H' = H1) I1 ⟨rfl, rfl⟩) fun v2 s2 hv2 => ?_
  obtain ⟨y, H2, I2, r2, rfl, rfl⟩ := hv2
  obtain ⟨t2, rfl⟩ := r2
  refine ⟨_, _, rfl, PySem.W.KXf.field_int (spec' := ⟨#[98]⟩) (by decide +kernel) rfl (by decide) (fun u => fmt_b h0 hz u) fun t' k => ?_⟩
  exact ⟨.str _, _, I2.tok _, ⟨_, rfl⟩, q⟩
end
/-! ### readings -/
section
variable {K : PySem.W.Frag} {σ : L2.St} {H : Hp} {ta tb te : TE} {x y z v : V} {D : Ends} {tu tz : TS}
def rInt1 : List V → Hp → VK → Prop := fun xs H Q => (∃ i, xs = [.int i] ∧ Q (.int i) H) ∨ ∃ k, xs = [.bl k] ∧ Q (.int (if k then 1 else 0)) H
theorem ev_int {i : Int} (h : Ev te σ H (.int i)) : Ev (tCB rInt1 (tCons te tNil)) σ H (.int i) := fun H1 e Q q => h H1 e _ fun H2 e2 => Or.inl ⟨i, rfl, q H2 e2⟩
theorem ev_intB {b : Bool} (h : Ev te σ H (.bl b)) : Ev (tCB rInt1 (tCons te tNil)) σ H (.int (if b then 1 else 0)) := fun H1 e Q q => h H1 e _ fun H2 e2 => Or.inr ⟨b, rfl, q H2 e2⟩
def rMin2 : List V → Hp → VK → Prop := fun xs H Q => ∃ i j, xs = [.int i, .int j] ∧ Q (.int (if j < i then j else i)) H
theorem ev_min2 {i j : Int} (ha : Ev ta σ H (.int i)) (hb : Ev tb σ H (.int j)) : Ev (tCB rMin2 (tCons ta (tCons tb tNil))) σ H (.int (if j < i then j else i)) := fun H1 e Q q =>
  ha H1 e _ fun H2 e2 => hb H2 (e.trans e2) _ fun H3 e3 => ⟨i, j, rfl, q H3 (e2.trans e3)⟩
theorem ev_isi {c : V} {t u : Value} {b : Bool} (ha : Ev ta σ H x) (hb : Ev tb σ H c) (k : ClsV c u) (ty : ∀ H1, Ex H H1 → TyX K H1 x t) (e : PySem.W.kitOne K t u = some b) : Ev (tCB (rIsi K) (tCons ta (tCons tb tNil))) σ H (.bl b) := fun H1 e1 Q q =>
  ha H1 e1 _ fun H2 e2 => hb H2 (e1.trans e2) _ fun H3 e3 => ⟨x, c, t, u, b, rfl, k, ty H3 ((e1.trans e2).trans e3), e, q H3 (e2.trans e3)⟩
theorem ev_lenStr {s : Str} (ha : Ev ta σ H (.str s)) (hs : s.length ≤ sizeLine) : Ev (tCB (fun xs H Q => ∃ z : Str, xs = [.str z] ∧ z.length ≤ sizeLine ∧ Q (.int z.length) H) (tCons ta tNil)) σ H (.int (s.length : Int)) := fun H1 e Q q =>
  ha H1 e _ fun H2 e2 => ⟨s, rfl, hs, q H2 e2⟩
theorem ev_bits {i : Int} (h : Ev te σ H (.int i)) : Ev (tBits te) σ H (.int (Builtin.Int.intBits i : Nat)) := fun H1 e Q q => h H1 e _ fun H2 e2 => ⟨i, rfl, q H2 e2⟩
theorem ev_fmtB {i : Int} (h : Ev te σ H (.int i)) (h0 : 0 ≤ i) (hz : (binT i.natAbs).length ≤ sizeLine) : Ev (tFmtB te) σ H (.str (binT i.natAbs)) := fun H1 e Q q => h H1 e _ fun H2 e2 => ⟨i, rfl, h0, hz, q H2 e2⟩
def rZfill : V → List V → Hp → VK → Prop := fun x xs H Q => ∃ (a : Str) (i : Int), x = .str a ∧ xs = [.int i] ∧ PadOk i = true ∧ Q (.str (Txt.zfill a i)) H
theorem ev_zfill {a : Str} {i : Int} (ha : Ev ta σ H (.str a)) (hb : Ev tb σ H (.int i)) (hp : PadOk i = true) : Ev (tBM K "str" rZfill ta (tCons tb tNil)) σ H (.str (Txt.zfill a i)) := fun H1 e Q q =>
  ha H1 e _ fun H2 e2 => ⟨rfl, hb H2 (e.trans e2) _ fun H3 e3 => ⟨a, i, rfl, rfl, hp, q H3 (e2.trans e3)⟩⟩
theorem ev_callN {n m : Nat} {sp : Sp} {gV : List V → List V → List V} {E : XK} {t tk : TA} {vs zs : List V} (h : EvA t σ H vs) (hk : EvA tk σ H zs) (h1 : vs.length = n) (h2 : zs.length = m) (hs : SpV sp (gV vs zs) H z) : Ev (tCallN n m sp gV E t tk) σ H z := fun H1 e Q q =>
  h H1 e _ fun H2 e2 => hk H2 (e.trans e2) _ fun H3 e3 => ⟨h1, h2, hs H3 ((e.trans e2).trans e3) Q (fun H4 e4 => q H4 ((e2.trans e3).trans e4)) E⟩
/-- two new lists one behind the other -/
theorem el_cat {xs ys : List V} (ha : EvL ta σ H xs) (hb : EvL tb σ H ys) (hz : xs.length + ys.length ≤ 100000) : EvL (tOp rCat ta tb) σ H (xs ++ ys) := fun H1 e Q q =>
  ha H1 e _ fun p H2 hp e2 h2 => hb H2 (e.trans e2) _ fun r H3 hr e3 h3 => ⟨p, r, xs, ys, rfl, rfl, e3 p _ h2, h3, sz_of hz, fun l hl => q l _ (fresh_back (e2.trans e3) hl) ((e2.trans e3).trans (Ex.new hl)) upd_same⟩
theorem el_catV {xs ys : List V} {b : Addr} (ha : EvL ta σ H xs) (hb : Ev tb σ H (.ref b)) (hy : H b = some (.lst ys)) (hz : xs.length + ys.length ≤ 100000) : EvL (tOp rCat ta tb) σ H (xs ++ ys) := fun H1 e Q q =>
  ha H1 e _ fun p H2 hp e2 h2 => hb H2 (e.trans e2) _ fun H3 e3 => ⟨p, b, xs, ys, rfl, rfl, e3 p _ h2, ((e.trans e2).trans e3) b _ hy, sz_of hz, fun l hl => q l _ (fresh_back (e2.trans e3) hl) ((e2.trans e3).trans (Ex.new hl)) upd_same⟩
end
end My

set_option Elab.async false
set_option linter.all false
set_option maxRecDepth 100000
set_option maxHeartbeats 4000000
namespace My
open PySem PySem.Spec PyProof.Rows L2 Evl
/-! ### a law's def, called where no text of an object is under way -/
structure FnG (P : Program) (w : World) (K : PySem.W.Frag) (mg : Str → Option Value) (base : Heap) (CX : CXT) (k : Nat) (f : Addr) (fd : FuncData) (ps : List Str) (sp : Sp) : Prop where
  run : ∀ (A : Around) (outer : List Env) (s : Shared) (H : Hp) (args : Args) (us : List Value) (vs : List V) (Q : VK) (E : XK), Room k A → A.guards = some [] → Env0 P w K mg base A outer s H → BindsTo s fd args (ps.zip us) → Vals vs us → sp vs H Q E →
    codeAny (model P w) A (.call (.ref f) args) (CR CX outer P w H s Q E) s
theorem guards_deeper (A : Around) (env : Env) : (A.deeper env).guards = A.guards := rfl
section
variable {P : Program} {w : World} {K : PySem.W.Frag} {mg : Str → Option Value} {base : Heap}
theorem fnG_of {k : Nat} {f : Addr} {fd : FuncData} {x : Str} {st : Stmt} {N ps : List Str} {sp : Sp} (F : FnP K x st f fd) (S : FnScope N ps (defScope st)) (len : ∀ vs H Q E, sp vs H Q E → vs.length = ps.length)
    (body : ∀ (cdv : Value) (A : Around) (outer : List Env) (s : Shared) (H : Hp) (vs : List V) (Q : VK) (E : XK), Room k (A.deeper (envOfC x (defScope st) s.heap.objs.size f cdv)) → A.guards = some [] → sp vs H Q E →
      ∃ t, PSs (cxOf CX0 P w K mg base N x (defScope st) f cdv A outer s H E).nox (defBody st) t ∧ t { nx := fun _ H' => Q .non H', rt := Q } (start N vs) H) : FnG P w K mg base CX0 (k + 1) f fd ps sp := by
  obtain ⟨oc, od, dV, kV, doc, pm, an, cdv, ct, osl, rfl, lk, hcd, _, _⟩ := F.ex
  constructor
  intro A outer t H args us vs Q E room gd env bind rel hsp
  have hlen := len vs H Q E hsp
  have inK : K.In t.heap := env.mod.kin.keeps fun b o z => (env.bs b o z).1
  have noLim : t.heap.NoLimit := env.mod.nolimit.keeps fun b o z => (env.bs b o z).1
  refine codeAny_call_function room.depth (inK _ _ lk) rfl S.co S.gen rfl (PySem.W.codeRec_of inK hcd) (bind _ _ _ _ ?_)
  refine wpAny_newFunctionEnv_cells S.kind (fun y hy => ?_) fun env' e1 t1 inCall => ?_
  · obtain ⟨n, v⟩ := y
    rcases S.par n (List.of_mem_zip hy).1 with z | z
    · exact Or.inl z
    · exact Or.inr ⟨z, PySem.W.cellsFrom_some _ _ _ (Or.inl z)⟩
  subst e1
  refine ⟨noLim.keeps inCall.toInCall.keep, codeAny_func ?_⟩
  obtain ⟨tt, ht0, hq⟩ := body cdv A outer t H vs Q E (room.deeper _) gd hsp
  have ht := PSs.nox ht0
  have J0 : Inv (cxOf CX0 P w K mg base N x (defScope st) f cdv A outer t H E) [] (start N vs) H t1 := inv_start S room.hd env hlen rel inCall
  refine wpAny_mono (ht.run [] t1 (start N vs) H _ J0 hq) (fun fl t2 hs => ?_) fun _ _ z => z
  cases fl with
  | ret u =>
    obtain ⟨v, σ', H', J, rv, q⟩ := hs
    exact ⟨v, H', J.os, J.bare, J.base, J.hok, rv, q⟩
  | next =>
    obtain ⟨σ', H', J, q⟩ := hs
    exact ⟨V.non, H', J.os, J.bare, J.base, J.hok, rfl, q⟩
  | brk =>
    obtain ⟨_, _, _, q⟩ := hs
    exact q.elim
  | cont =>
    obtain ⟨_, _, _, q⟩ := hs
    exact q.elim
/-- the law called on its script -/
theorem lawG_call {k : Nat} {fa a : Addr} {fd : FuncData} {x : Str} {mb : Str → Option Value} {sp : Sp} {t : Shared} {vs : List Value} {ns : List Int}
    (inK : K.In t.heap) (gN : t.heap.Ns mainGlobals mg) (bN : t.heap.Ns builtinsNs mb) (bI : ∀ y : Str, y ≠ "__name__" → mb y = bootBuiltins y) (noLim : t.heap.NoLimit) (gE : t.gens = #[])
    (hobj : t.heap.get? a = some { cls := .type "list", data := .seq vs.toArray }) (hi : IntsAre vs ns) (hl : ns.length ≤ sizeLine) (room : Room k callerA)
    (F : ∀ base : Heap, K.In base → base.Ns mainGlobals mg → FnG P w K mg base CX0 k fa fd [x] sp) (bind : ∀ (s : Shared) (u : Value), BindsTo s fd ⟨[u], []⟩ [(x, u)])
    (hsp : ∀ H : Hp, SqL K H a (ns.map V.int) → sp [.ref a] H (fun v _ => v = .bl true) fun _ _ _ => False) :
    codeAny (model P w) callerA (.call (.ref fa) ⟨[.ref a], []⟩) (fun r s' => r = .ok (.ret (.bool true)) ∧ OldK t.heap s'.heap ∧ s'.os = t.os ∧ AllBare s'.gens) t := by
  have go : ∀ H : Hp, (∀ b, H b ≠ none → b = a ∧ K.lookup a = none ∧ ∃ ob xs, H a = some (HO.frz ob (.lst xs))) → SqL K H a (ns.map V.int) → HOk P w H t.heap →
      codeAny (model P w) callerA (.call (.ref fa) ⟨[.ref a], []⟩) (fun r s' => r = .ok (.ret (.bool true)) ∧ OldK t.heap s'.heap ∧ s'.os = t.os ∧ AllBare s'.gens) t := by
    intro H hH hS hok
    have free : ∀ {b : Addr} {o : Obj} {es : Array DictEntry} {ep : Nat}, t.heap.get? b = some o → o.data = .dict es ep → H b = none := by
      intro b o es ep g d
      by_cases z : H b = none
      · exact z
      · obtain ⟨rfl, _⟩ := hH b z
        rw [hobj] at g
        cases g
        cases (show Data.seq vs.toArray _ = Data.dict es ep from d)
    have ns' : ∀ {b : Addr} {m : Str → Option Value}, t.heap.Ns b m → (hidT t.heap H).Ns b m := by
      rintro b m ⟨o, es, ep, g, d, r⟩
      exact ⟨o, es, ep, hidT_get g (free g d), d, r⟩
    have inB : K.In (hidT t.heap H) := by
      intro b o g
      refine hidT_get (inK b o g) ?_
      by_cases z : H b = none
      · exact z
      · obtain ⟨rfl, z2, _⟩ := hH b z
        rw [z2] at g
        cases g
    have md : Mod K mg (hidT t.heap H) := by
      obtain ⟨mc, h1, h2⟩ := noLim
      exact ⟨inB, ns' gN, ⟨mb, ns' bN, bI⟩, ⟨mc, ns' h1, h2⟩⟩
    have env : Env0 P w K mg (hidT t.heap H) callerA [] t H := ⟨rfl, md, fun b o g => of_hidT g, Nat.le_of_eq (hidT_size _ _), trivial, fun b hb => (List.not_mem_nil hb).elim, hok, .of_eq gE⟩
    have run := (F _ inB (ns' gN)).run callerA [] t H ⟨[.ref a], []⟩ [.ref a] [.ref a] _ _ room rfl env (bind t (.ref a)) (.cons rfl .nil) (hsp H hS)
    refine codeAny_mono run fun r s' h => ?_
    match r, h with
    | .ok (.ret u), h =>
      obtain ⟨v, H', os, bare, un, hok', rel, q⟩ := h
      cases (show v = V.bl true from q)
      obtain rfl : u = Value.bool true := rel
      refine ⟨rfl, OldK.of_keep fun b o g => ?_, os, bare⟩
      by_cases z : H b = none
      · exact un.keep b o g z (fun c => (List.not_mem_nil c).elim) (fun c => (List.not_mem_nil c).elim)
      · obtain ⟨rfl, _, ob, xs, z2⟩ := hH b z
        have z3 := un.frzs b ob _ z2
        obtain ⟨g1, _⟩ := hok b _ z2
        obtain ⟨g2, _⟩ := hok' b _ z3
        rw [g] at g1
        cases g1
        exact g2
  have rel := vals_ints hi
  have lenV := hi.length
  by_cases hk : K.lookup a = none
  · refine go (fun b => if b = a then some (.frz { cls := .type "list", data := .seq vs.toArray } (.lst (ns.map V.int))) else none) (fun b z => ?_) (Or.inl (Or.inr ⟨_, if_pos rfl⟩)) (fun b u z => ?_)
    · have e : b = a := by
        by_cases e : b = a
        · exact e
        · exact (z (if_neg e)).elim
      exact ⟨e, hk, _, _, if_pos rfl⟩
    · by_cases e : b = a
      · have z' := (if_pos e).symm.trans z
        cases z'
        subst e
        exact ⟨hobj, by rw [List.length_map]; exact hl, vs, _, rel, hobj⟩
      · have z' := (if_neg e).symm.trans z
        cases z'
  · obtain ⟨o, ho⟩ := Option.ne_none_iff_exists'.mp hk
    have g := inK a o ho
    rw [hobj] at g
    cases g
    refine go (fun _ => none) (fun b z => (z rfl).elim) (Or.inr ⟨_, vs.toArray, _, ho, rfl, rfl, rfl, by rw [List.size_toArray, lenV]; exact hl, by simpa using rel⟩) (fun b u z => ?_)
    cases (show (none : Option HO) = some u from z)
end
theorem walkG {l : PySem.W.OpenLaw} {n k : Nat} {q : Program} {loose : List Str} {XP : (Str → Option Value) → Heap → Prop} {YP : World → Heap → Prop} {d : DefRec} {x : Str}
    (hn : l.most = some n) (hn2 : n ≤ sizeLine) (hdf : d.params.defaults = []) (room : Room k callerA)
    (F : ∀ (w : World) (mg : Str → Option Value) (fa : Addr) (h : Heap), YP w h → h.Ns mainGlobals mg → mg d.name = some (.ref fa) →
      ∃ (K : PySem.W.Frag) (fd : FuncData) (sp : Sp), K.In h ∧ (∀ (s : Shared) (u : Value), BindsTo s fd ⟨[u], []⟩ [(x, u)]) ∧
        (∀ (H : Hp) (a : Addr) (ns : List Int), ns.length ≤ n → SqL K H a (ns.map V.int) → sp [.ref a] H (fun v _ => v = .bl true) fun _ _ _ => False) ∧
        ∀ base : Heap, K.In base → base.Ns mainGlobals mg → FnG l.prog w K mg base CX0 k fa fd [x] sp) :
    PySem.W.WalkO q loose XP YP l.row.toRowW d [] (fun f vs => PySem.call f vs) := by
  refine Att.attach_call hn hdf fun w s0 s1 mg mb fa o pm cd doc a vs ns G Y _ _ _ hmg hobj hints hlen hg => ?_
  obtain ⟨K, fd, sp, inK, hb, hsp, hF⟩ := F w mg fa _ Y G.T.g hmg
  exact lawG_call inK G.T.g G.T.b G.T.builtins G.T.nolimit hg hobj hints (Nat.le_trans hlen hn2) room hF hb fun H hS => hsp H a ns hlen hS
/-! ### repr of a list of ints -/
def reprInts (ns : List Int) : Str := (PyData.list (ns.map PyData.int)).shown
section
variable {X : Cx}
theorem reads_ints {h : Heap} : ∀ {ns : List Int} {its : List Value}, Vals (ns.map V.int) its → ReadsAll h its (ns.map PyData.int) []
  | [], _, .nil => .nil
  | n :: ns, _, .cons ⟨t, e⟩ r => by
    subst e
    exact .cons (.int n t) (reads_ints r)
theorem showable_ints : ∀ {ns : List Int}, (∀ n ∈ ns, n.natAbs.log2 < 1920) → PyData.showableAll (ns.map PyData.int) = true
  | [], _ => rfl
  | n :: ns, h => by
    show (decide (n.natAbs.log2 < 1920) && PyData.showableAll (ns.map PyData.int)) = true
    rw [decide_eq_true (h n List.mem_cons_self), showable_ints fun m hm => h m (List.mem_cons_of_mem _ hm)]
    rfl
def rReprL (K : PySem.W.Frag) : List V → Hp → VK → Prop := fun xs H Q => ∃ p ns, xs = [.ref p] ∧ H p = some (.lst (ns.map V.int)) ∧ (∀ n ∈ ns, n.natAbs.log2 < 1920) ∧ (reprInts ns).length ≤ sizeLine ∧ Q (.str (reprInts ns)) H
theorem depth_ints : ∀ ns : List Int, PyData.depthAll (ns.map PyData.int) ≤ 1
  | [] => by decide
  | n :: ns => by
    have h := depth_ints ns
    simp only [List.map_cons, PyData.depthAll, PyData.depth]
    omega
theorem noDict_ints : ∀ ns : List Int, PyData.hasDictAll (ns.map PyData.int) = false
  | [] => rfl
  | n :: ns => by
    have h := noDict_ints ns
    simp only [List.map_cons, PyData.hasDictAll, PyData.hasDict, h, Bool.or_self]
theorem cr_reprL {k : Nat} (hg : X.A.guards = some []) (hr : Room k X.A) : CallR X (.builtin "repr") (rReprL X.K) := by
  intro pins s σ H xs us Q I r h
  obtain ⟨p, ns, rfl, hp, hb, hz, q⟩ := h
  obtain ⟨u, rfl, ru⟩ := vals1 r
  cases (show u = Value.ref p from ru)
  obtain ⟨its, rv, pl, _⟩ := I.list (SqL.of hp)
  obtain ⟨o, n0, ho, hc, _, hd⟩ := pl
  have hd1 := depth_ints ns
  have hu := hr.units
  refine repr_of_reads' (d := .list (ns.map PyData.int)) (.list ho hc hd (by simpa using reads_ints rv)) (showable_ints hb) (fun c => by simp [PyData.hasDict, noDict_ints] at c) hg (by simp only [PyData.depth]; omega) (fun b o z => z) (fun h' u tk hk => ?_) hz
  exact ⟨.str _, H, I.kept hk, ⟨u, rfl⟩, q⟩
end
end My

set_option Elab.async false
set_option linter.all false
set_option maxRecDepth 100000
set_option maxHeartbeats 4000000
namespace My
open PySem PySem.Spec PyProof.Rows L2 Evl
section
variable {X : Cx}
theorem pip_of {op : Operator} {r : R2} (h : OpR X (inplaceOp op) r) : PIp X op r := fun pins s σ H x y v u Q I r1 r2 hh => h pins s σ H x y v u Q I r1 r2 hh
def rIsqrt : List V → Hp → VK → Prop := fun xs H Q => ∃ n : Nat, xs = [.int (n : Int)] ∧ n < 2 ^ 4000 ∧ Q (.int (Float64.isqrt n : Nat)) H
theorem cr_isqrt : CallR X (.builtin "math.isqrt") rIsqrt := by
  intro pins s σ H xs us Q I r h
  obtain ⟨n, rfl, hn, q⟩ := h
  obtain ⟨u, rfl, t, rfl⟩ := vals1 r
  have hl : ((n : Nat) : Int).toNat.log2 ≤ 3999 := by
    rw [Int.toNat_natCast]
    by_cases z : n = 0
    · subst z; decide
    · exact Nat.le_of_lt_succ ((Nat.log2_lt z).mpr hn)
  have g := PySem.W.mg_run_isqrt (n : Int) t (by omega) (by omega) (by omega)
  exact call_function_meets PySem.W.MGF.kind_isqrt PySem.W.MGF.plain_isqrt PySem.W.MGF.entry_isqrt (PySem.W.MGF.args_isqrt _) g.meets ⟨.int _, H, I.tok _, ⟨_, by rw [Int.toNat_natCast]⟩, q⟩
end
section
variable {K : PySem.W.Frag} {σ : L2.St} {H : Hp} {ta tb te : TE} {x y z v : V} {D : Ends} {tu tz : TS}
theorem ev_isqrt {n : Nat} (h : Ev te σ H (.int (n : Int))) (hn : n < 2 ^ 4000) : Ev (tCB rIsqrt (tCons te tNil)) σ H (.int (Float64.isqrt n : Nat)) := fun H1 e Q q => h H1 e _ fun H2 e2 => ⟨n, rfl, hn, q H2 e2⟩
theorem q_augR {i : Nat} {r : R2} {a : V} (hx : σ[i]? = some (some a)) (h : Ev te σ H y) (hr : RV r a y H z) (k : ∀ H1, Ex H H1 → tz D (σ.set i (some z)) H1) : tSeq (tAug i te r) tz D σ H :=
  ⟨a, hx, h H (Ex.refl H) _ fun H1 e => hr H1 e _ fun H2 e2 => k H2 (e.trans e2)⟩
theorem s_augR {i : Nat} {r : R2} {a : V} (hx : σ[i]? = some (some a)) (h : Ev te σ H y) (hr : RV r a y H z) (k : ∀ H1, Ex H H1 → D.nx (σ.set i (some z)) H1) : tAug i te r D σ H :=
  ⟨a, hx, h H (Ex.refl H) _ fun H1 e => hr H1 e _ fun H2 e2 => k H2 (e.trans e2)⟩
theorem ev_sum {ns : List Int} (h : EvL te σ H (ns.map V.int)) : Ev (tCB (rSum K) (tCons te tNil)) σ H (.int ns.sum) := fun H1 e Q q => h H1 e _ fun p H2 _ e2 h2 => ⟨p, ns, rfl, sq_of h2, q H2 e2⟩
theorem ev_reprL {ns : List Int} (h : EvL te σ H (ns.map V.int)) (hb : ∀ n ∈ ns, n.natAbs.log2 < 1920) (hz : (reprInts ns).length ≤ sizeLine) : Ev (tCB (rReprL K) (tCons te tNil)) σ H (.str (reprInts ns)) := fun H1 e Q q => h H1 e _ fun p H2 _ e2 h2 => ⟨p, ns, rfl, h2, hb, hz, q H2 e2⟩
theorem wmul {i j : Int} (hi : i.natAbs < 2 ^ 1000) (hj : j.natAbs < 2 ^ 1000) : CMulW i j := wide_mul hi hj (by decide) (by decide) (by decide)
end
end My

set_option Elab.async false
set_option linter.all false
set_option maxRecDepth 100000
set_option maxHeartbeats 4000000
namespace My
open PySem PySem.Spec PyProof.Rows L2 Evl
structure TT (mg : Str → Option Value) : Prop where
  len : mg "len" = none
  int_ : mg "int" = none
  bool_ : mg "bool" = none
  str_ : mg "str" = none
  list_ : mg "list" = none
  tuple_ : mg "tuple" = none
  range : mg "range" = none
  max : mg "max" = none
  min : mg "min" = none
  sum : mg "sum" = none
  isinstance : mg "isinstance" = none
  sorted : mg "sorted" = none
  repr : mg "repr" = none
  abs : mg "abs" = none
  enumerate : mg "enumerate" = none
/-- a loop over a text's signs -/
theorem for_str {x : Str} {g : TG} {tb : TS} {D : Ends} {σ : L2.St} {H : Hp} (Pv : Nat → L2.St → Hp → Prop) (h0 : Pv 0 σ H)
    (hs : ∀ i c σ H, x.cps[i]? = some c → Pv i σ H → g (.str ⟨#[c]⟩) σ H fun σ2 H2 => tb { D with nx := Pv (i + 1), ct := Pv (i + 1), bk := D.nx } σ2 H2) (hd : ∀ σ H, Pv x.cps.size σ H → D.nx σ H) :
    ∃ W : Nat → Nat → L2.St → Hp → Prop, (∃ m, W 0 m σ H) ∧ ∀ i m σ H, W i m σ H →
      ((Its x).stop i H ∧ D.nx σ H) ∨ ((Its x).go i H ∧ ∃ N : L2.St → Hp → Prop, (∀ σ' H', N σ' H' → ∃ m', m' < m ∧ W (i + 1) m' σ' H') ∧ ∀ y H', (Its x).yld i H y H' → g y σ H' fun σ2 H2 => tb { D with nx := N, ct := N, bk := D.nx } σ2 H2) := by
  refine ⟨fun i m σ H => m = x.cps.size - i ∧ i ≤ x.cps.size ∧ Pv i σ H, ⟨x.cps.size, by simp, Nat.zero_le _, h0⟩, ?_⟩
  rintro i m σ H ⟨rfl, hi, p⟩
  by_cases hlt : i < x.cps.size
  · refine .inr ⟨hlt, Pv (i + 1), fun σ' H' p' => ⟨x.cps.size - (i + 1), by omega, rfl, hlt, p'⟩, fun y H' z => ?_⟩
    obtain ⟨e, c, hc, rfl⟩ := z
    subst e
    exact hs i c σ _ hc p
  · have e : i = x.cps.size := by omega
    subst e
    exact .inl ⟨Nat.le_refl _, hd σ H p⟩
theorem q_forS {x : Str} {tl : TE} {g : TG} {D : Ends} {σ : L2.St} {H : Hp} {tu tz : TS} (h : Ev tl σ H (.str x)) (Pv : Nat → L2.St → Hp → Prop) (h0 : ∀ H1, Ex H H1 → Pv 0 σ H1)
    (hs : ∀ i c σ' H', x.cps[i]? = some c → Pv i σ' H' → g (.str ⟨#[c]⟩) σ' H' fun σ2 H2 => tu { D with nx := Pv (i + 1), ct := Pv (i + 1), bk := tz D } σ2 H2) (hd : ∀ σ' H', Pv x.cps.size σ' H' → tz D σ' H') : tSeq (tFor (iStr tl) g tu) tz D σ H :=
  h H (Ex.refl H) _ fun H1 e => ⟨x, rfl, for_str (D := { D with nx := tz D }) Pv (h0 H1 e) hs hd⟩
theorem vals_rev {zs : List V} {ws : List Value} (r : Vals zs ws) : Vals zs.reverse ws.reverse := by
  induction r with
  | nil => exact .nil
  | cons a r ih => rw [List.reverse_cons, List.reverse_cons]; exact ih.append (.cons a .nil)
/-! ### lists of ints in the heap -/
theorem get_map {ns : List Int} {i : Nat} {x : V} (h : (ns.map V.int)[i]? = some x) : ∃ z, ns[i]? = some z ∧ x = .int z := by
  rw [List.getElem?_map] at h
  cases e : ns[i]? with
  | none => rw [e] at h; cases h
  | some z => rw [e] at h; exact ⟨z, rfl, (Option.some.inj h).symm⟩
theorem drop_get {α : Type} {l : List α} {i : Nat} {x : α} (h : l[i]? = some x) : l.drop i = x :: l.drop (i + 1) := by
  obtain ⟨hi, e⟩ := List.getElem?_eq_some_iff.mp h
  rw [List.drop_eq_getElem_cons hi, e]
theorem at_map {ns : List Int} {i : Int} {z : Int} (h0 : 0 ≤ i) (h : ns[i.toNat]? = some z) : atI (ns.map V.int) i = some (.int z) := by
  have hi : i.toNat < ns.length := (List.getElem?_eq_some_iff.mp h).1
  have e : ixN (ns.map V.int).length i = some i.toNat := by
    unfold ixN
    rw [List.length_map, if_pos h0, if_pos (by omega)]
  unfold atI
  rw [e]
  show (ns.map V.int)[i.toNat]? = _
  rw [List.getElem?_map, h]
  rfl
/-! ### a cell -/
def seedF (ns : List Int) : Int := ns.foldl (fun s c => (s * 31 + c % 1000003) % 1000003) 17
def cellF (ns : List Int) (k : Int) : Int := if k < (ns.length : Int) then ns.getD k.toNat 0 else ((seedF ns + 7) * (k + 3) * 69621) % 2147483647
/-! ### digits -/
def digA : Int → List Int → List Int
  | _, [] => []
  | r, s :: ss => r % s :: digA (r / s) ss
def digB : Int → Int → List Int → List Int
  | _, _, [] => []
  | seed, k, s :: ss =>
    let seed' := (seed * 48271 + 974711 * k + 12345) % 2147483647
    let twice := (seed' * (seed' / 65537 + 3)) % 2147483629
    (twice / 19 % s) :: digB seed' (k + 1) ss
def digitsF (c : Int) (ss : List Int) : List Int := if 1000000000000000000 ≤ c then digA (c - 1000000000000000000) ss else digB (c % 2147483629) 0 ss
theorem digA_len : ∀ (r : Int) (ss : List Int), (digA r ss).length = ss.length
  | _, [] => rfl
  | r, s :: ss => by simp [digA, digA_len]
theorem digB_len : ∀ (r k : Int) (ss : List Int), (digB r k ss).length = ss.length
  | _, _, [] => rfl
  | r, k, s :: ss => by simp [digB, digB_len]
theorem digits_len (c : Int) (ss : List Int) : (digitsF c ss).length = ss.length := by
  unfold digitsF; split
  · exact digA_len _ _
  · exact digB_len _ _ _
/-- each digit is from 0 to its size, without it -/
def Within : List Int → List Int → Prop
  | [], [] => True
  | d :: ds, s :: ss => (0 ≤ d ∧ d < s) ∧ Within ds ss
  | _, _ => False
theorem digA_in : ∀ (r : Int) (ss : List Int), (∀ s ∈ ss, 0 < s) → Within (digA r ss) ss
  | _, [], _ => trivial
  | r, s :: ss, h => ⟨⟨Int.emod_nonneg _ (by have := h s List.mem_cons_self; omega), Int.emod_lt_of_pos _ (h s List.mem_cons_self)⟩, digA_in _ ss fun z hz => h z (List.mem_cons_of_mem _ hz)⟩
theorem digB_in : ∀ (r k : Int) (ss : List Int), (∀ s ∈ ss, 0 < s) → Within (digB r k ss) ss
  | _, _, [], _ => trivial
  | r, k, s :: ss, h => ⟨⟨Int.emod_nonneg _ (by have := h s List.mem_cons_self; omega), Int.emod_lt_of_pos _ (h s List.mem_cons_self)⟩, digB_in _ _ ss fun z hz => h z (List.mem_cons_of_mem _ hz)⟩
theorem digits_in (c : Int) (ss : List Int) (h : ∀ s ∈ ss, 0 < s) : Within (digitsF c ss) ss := by
  unfold digitsF; split
  · exact digA_in _ _ h
  · exact digB_in _ _ _ h
theorem et_yes {σ : L2.St} {H : Hp} : EvT tYes σ H true := fun H1 _ Q q => q H1 (Ex.refl H1)
theorem Within.get : ∀ {ds ss : List Int}, Within ds ss → ∀ i, i < ss.length → 0 ≤ ds.getD i 0 ∧ ds.getD i 0 < ss.getD i 0
  | [], [], _, i, h => absurd h (Nat.not_lt_zero i)
  | d :: ds, s :: ss, h, 0, _ => h.1
  | d :: ds, s :: ss, h, i + 1, hi => h.2.get i (by simpa using hi)
  | [], _ :: _, h, _, _ => h.elim
  | _ :: _, [], h, _, _ => h.elim
theorem Within.len : ∀ {ds ss : List Int}, Within ds ss → ds.length = ss.length
  | [], [], _ => rfl
  | _ :: _, _ :: _, h => congrArg Nat.succ h.2.len
  | [], _ :: _, h => h.elim
  | _ :: _, [], h => h.elim
theorem at_d {rs : List Int} {i : Nat} (h : i < rs.length) : atI (rs.map V.int) (i : Int) = some (.int (rs.getD i 0)) := at_map (by omega) (by
  rw [Int.toNat_natCast, List.getD_eq_getElem?_getD, List.getElem?_eq_getElem h]; rfl)
theorem pow_mono (b : Nat) (hb : 1 ≤ b) {i j : Nat} (h : i ≤ j) : ((b : Int)) ^ i ≤ (b : Int) ^ j := by
  have := Nat.pow_le_pow_right hb h
  have h2 : ((b ^ i : Nat) : Int) ≤ ((b ^ j : Nat) : Int) := Int.ofNat_le.mpr this
  rwa [Int.natCast_pow, Int.natCast_pow] at h2
theorem flat_ints (ns : List Int) : (ns.map V.int).all flatV = true := by
  rw [List.all_eq_true]
  intro x hx
  obtain ⟨z, _, rfl⟩ := List.mem_map.mp hx
  rfl
theorem in_ints (z : Int) (ns : List Int) : inV (.int z) (ns.map V.int) = decide (z ∈ ns) := by
  unfold inV
  induction ns with
  | nil => simp
  | cons a ns ih =>
    rw [List.map_cons, List.any_cons, ih]
    have : eqV (.int a) (.int z) = (a == z) := rfl
    rw [this]
    by_cases h : a = z
    · subst h; simp
    · have h2 : ¬ z = a := fun e => h e.symm
      simp [h, h2]
theorem given_map {α : Type} (xs : List α) (d : α) (g : α → V) (v : Nat → V) (h : ∀ i, i < xs.length → v i = g (xs.getD i d)) : given xs.length (fun _ => true) v = xs.map g := by
  unfold given
  rw [List.filter_eq_self.mpr (fun _ _ => rfl)]
  refine List.ext_getElem (by simp) fun i h1 h2 => ?_
  rw [List.getElem_map, List.getElem_map, List.getElem_range]
  rw [List.length_map] at h2
  rw [h i h2, List.getD_eq_getElem?_getD, List.getElem?_eq_getElem h2]
  rfl
/-- a call whose answer is one of several -/
theorem q_call {σ : L2.St} {H : Hp} {i : Nat} {sp : Sp} {dvs vs : List V} {E : XK} {ta : TA} {D : Ends} {tz : TS} (h : EvA ta σ H vs) (hs : ∀ H1, Ex H H1 → sp (vs ++ dvs) H1 (fun x H2 => tz D (σ.set i (some x)) H2) E) : tSeq (tAsg (tCall sp dvs E ta) (gName i)) tz D σ H :=
  h H (Ex.refl H) _ fun H1 e1 => hs H1 e1
/-- [x] * n -/
theorem el_rep {σ : L2.St} {H : Hp} {ta tb : TE} {xs : List V} {k : Int} (ha : EvL ta σ H xs) (hb : ∀ H1, Ex H H1 → Ev tb σ H1 (.int k)) (h0 : 0 ≤ k) (h1 : xs.length * k.toNat ≤ 100000) (h2 : k < 2 ^ 63) : EvL (tOp rRep ta tb) σ H (List.replicate k.toNat xs).flatten := fun H1 e Q q =>
  ha H1 e _ fun p H2 hp e2 h2' => hb H2 (e.trans e2) H2 (Ex.refl H2) _ fun H3 e3 => ⟨p, k, xs, rfl, rfl, e3 p _ h2', by omega, h2, sz_of h1, fun l hl => q l _ (fresh_back (e2.trans e3) hl) ((e2.trans e3).trans (Ex.new hl)) upd_same⟩
/-- a call with a new list as its second argument, its answer a new list -/
theorem q_call2L {σ : L2.St} {H : Hp} {i : Nat} {x : V} {xs ys : List V} {sp : Sp} {E : XK} {ta tb : TE} {D : Ends} {tz : TS} (ha : Ev ta σ H x) (hb : EvL tb σ H xs) (hs : ∀ p H1, H1 p = some (.lst xs) → Ex H H1 → SpL sp [x, .ref p] H1 ys)
    (k : ∀ p H1, H p = none → Ex H H1 → H1 p = some (.lst ys) → tz D (σ.set i (some (.ref p))) H1) : tSeq (tAsg (tCall sp [] E (tCons ta (tCons tb tNil))) (gName i)) tz D σ H :=
  ha H (Ex.refl H) _ fun H1 e1 => hb H1 e1 _ fun p H2 hp e2 h2 => hs p H2 h2 (e1.trans e2) H2 (Ex.refl H2) _ (fun r H3 hr e3 h3 => k r H3 (fresh_back (e1.trans e2) hr) ((e1.trans e2).trans e3) h3) E
theorem ev_callL2 {σ : L2.St} {H : Hp} {x z : V} {xs : List V} {sp : Sp} {E : XK} {ta tb : TE} (ha : Ev ta σ H x) (hb : EvL tb σ H xs) (hs : ∀ p H1, H1 p = some (.lst xs) → Ex H H1 → SpV sp [x, .ref p] H1 z) : Ev (tCall sp [] E (tCons ta (tCons tb tNil))) σ H z := fun H0 e0 Q q =>
  ha H0 e0 _ fun H1 e1 => hb H1 (e0.trans e1) _ fun p H2 hp e2 h2 => hs p H2 h2 ((e0.trans e1).trans e2) H2 (Ex.refl H2) Q (fun H3 e3 => q H3 ((e1.trans e2).trans e3)) E
theorem ev_callL1 {σ : L2.St} {H : Hp} {y z : V} {xs : List V} {sp : Sp} {E : XK} {ta tb : TE} (ha : EvL ta σ H xs) (hb : ∀ H1, Ex H H1 → Ev tb σ H1 y) (hs : ∀ p H1, H1 p = some (.lst xs) → Ex H H1 → SpV sp [.ref p, y] H1 z) : Ev (tCall sp [] E (tCons ta (tCons tb tNil))) σ H z := fun H0 e0 Q q =>
  ha H0 e0 _ fun p H1 hp e1 h1 => hb H1 (e0.trans e1) H1 (Ex.refl H1) _ fun H2 e2 => hs p H2 (e2 p _ h1) ((e0.trans e1).trans e2) H2 (Ex.refl H2) Q (fun H3 e3 => q H3 ((e1.trans e2).trans e3)) E
theorem ea_consNL {σ : L2.St} {H : Hp} {te : TE} {xs : List V} (h : EvL te σ H xs) (Q : List V → Hp → Prop) (q : ∀ p H2, H p = none → Ex H H2 → H2 p = some (.lst xs) → Q [.ref p] H2) : tCons te tNil σ H Q := h H (Ex.refl H) _ fun p H2 hp e h2 => q p H2 hp e h2
theorem kit_int_int {K : PySem.W.Frag} : PySem.W.kitOne K (.type "int") (.type "int") = some true := by rfl
theorem kit_int_bool {K : PySem.W.Frag} : PySem.W.kitOne K (.type "int") (.type "bool") = some false := by rfl
theorem kit_str_str {K : PySem.W.Frag} : PySem.W.kitOne K (.type "str") (.type "str") = some true := by rfl
def OkSizes (ss : List Int) : Prop := ss.length ≤ 10000 ∧ ∀ s ∈ ss, 0 < s ∧ s < 2 ^ 64
theorem divw {i j : Int} (h0 : 0 < j) (h : j < 2 ^ 64) : CDivW i j := wide_div (b := 64) h0 (by omega) (by decide) (by decide)
def spWhole : Sp := fun vs H Q _ => ∃ m : Int, vs = [.int m] ∧ RetV (.bl true) H Q
theorem sv_whole {m : Int} {H : Hp} : SpV spWhole [.int m] H (.bl true) := fun H1 _ Q q _ => ⟨m, rfl, q⟩
section
variable {K : PySem.W.Frag}
def spCellF (K : PySem.W.Frag) : Sp := fun vs H Q _ => ∃ (a : Addr) (ns : List Int) (k : Int), vs = [.ref a, .int k] ∧ SqL K H a (ns.map V.int) ∧ 0 ≤ k ∧ k ≤ 1000000 ∧ RetV (.int (cellF ns k)) H Q
theorem sv_cell {a : Addr} {ns : List Int} {k : Int} {H : Hp} (hS : SqL K H a (ns.map V.int)) (h0 : 0 ≤ k) (h1 : k ≤ 1000000) : SpV (spCellF K) [.ref a, .int k] H (.int (cellF ns k)) := fun H1 e Q q _ => ⟨a, ns, k, rfl, ex_l e hS, h0, h1, q⟩
def spDigits (K : PySem.W.Frag) : Sp := fun vs H Q _ => ∃ (c : Int) (b : Addr) (ss : List Int), vs = [.int c, .ref b] ∧ SqL K H b (ss.map V.int) ∧ OkSizes ss ∧ RetL ((digitsF c ss).map V.int) H Q
theorem sl_digits {c : Int} {b : Addr} {ss : List Int} {H : Hp} (hS : SqL K H b (ss.map V.int)) (ok : OkSizes ss) : SpL (spDigits K) [.int c, .ref b] H ((digitsF c ss).map V.int) := fun H1 e Q q _ => ⟨c, b, ss, rfl, ex_l e hS, ok, fun p H2 hp e2 h2 => q p H2 hp e2 h2⟩
theorem pos_of {ss : List Int} (h : OkSizes ss) : ∀ s ∈ ss, 0 < s := fun s hs => (h.2 s hs).1
end
end My

set_option Elab.async false
set_option linter.all false
set_option maxRecDepth 100000
set_option maxHeartbeats 4000000
namespace My
open PySem PySem.Spec PyProof.Rows L2 Evl
open SX (S S_len S_cat S_beq S_beq_eq S_inj S_tl)
/-! ### texts as lists of code points -/
def cutL {α : Type} (l : List α) (lo hi : Option Int) : List α := (l.drop (HT.sIx l.length 0 lo)).take (HT.sIx l.length l.length hi - HT.sIx l.length 0 lo)
theorem cutV_L (xs : List V) (lo hi : Option Int) : cutV xs lo hi = cutL xs lo hi := rfl
theorem cutS_S (l : List Nat) (lo hi : Option Int) : cutS (S l) lo hi = S (cutL l lo hi) := by
  unfold cutS cutL
  rw [S_len]
theorem sIx_pos {n d : Nat} {i : Int} (h : 0 ≤ i) : HT.sIx n d (some i) = min i.toNat n := by
  show (if i < 0 then _ else min i.toNat n) = _
  rw [if_neg (by omega)]
theorem cutL_to {α : Type} {l : List α} {i : Int} (h : 0 ≤ i) : cutL l none (some i) = l.take i.toNat := by
  unfold cutL
  rw [sIx_pos h, HT.sIx_none, List.drop_zero, Nat.sub_zero]
  rw [List.take_eq_take_iff]
  omega
theorem cutL_from {α : Type} {l : List α} {i : Int} (h : 0 ≤ i) : cutL l (some i) none = l.drop i.toNat := by
  unfold cutL
  rw [sIx_pos h, HT.sIx_none]
  by_cases c : i.toNat ≤ l.length
  · rw [Nat.min_eq_left c]
    apply List.take_of_length_le
    rw [List.length_drop]
    omega
  · rw [Nat.min_eq_right (by omega), List.drop_length, List.drop_eq_nil_of_le (by omega)]
    simp
theorem cutL_mid {α : Type} {l : List α} {i j : Int} (h : 0 ≤ i) (hj : 0 ≤ j) : cutL l (some i) (some j) = (l.drop i.toNat).take (j.toNat - i.toNat) := by
  unfold cutL
  rw [sIx_pos h, sIx_pos hj]
  by_cases c : i.toNat ≤ l.length
  · rw [Nat.min_eq_left c, List.take_eq_take_iff, List.length_drop]
    omega
  · have e : min i.toNat l.length = l.length := Nat.min_eq_right (by omega)
    rw [e, List.drop_length, List.drop_eq_nil_of_le (show l.length ≤ i.toNat by omega)]
    simp
theorem cutL_map {α β : Type} (f : α → β) (l : List α) (lo hi : Option Int) : cutL (l.map f) lo hi = (cutL l lo hi).map f := by
  unfold cutL
  rw [List.length_map, List.map_take, List.map_drop]
theorem cutL_len {α : Type} (l : List α) (lo hi : Option Int) : (cutL l lo hi).length ≤ l.length := by
  unfold cutL
  rw [List.length_take, List.length_drop]
  omega
section
variable {X : Cx}
/-- a text times an int -/
def rRepS : R2 := fun x y H Q => ∃ (l : List Nat) (k : Int), x = .str (S l) ∧ y = .int k ∧ 0 ≤ k ∧ k ≤ 1000000 ∧ l.length * k.toNat ≤ 1000000 ∧ Q (.str (S (List.replicate k.toNat l).flatten)) H
theorem fold_app (l : List Nat) : ∀ (n : Nat) (acc : Array Nat), List.foldl (· ++ ·) acc (List.replicate n l.toArray) = acc ++ (List.replicate n l).flatten.toArray
  | 0, acc => by simp
  | n + 1, acc => by
    rw [List.replicate_succ, List.foldl_cons, fold_app l n, List.replicate_succ, List.flatten_cons]
    simp
theorem op_repS : OpR X (binaryOp .Mult) rRepS := by
  intro pins s σ H x y v u Q I rx ry h
  obtain ⟨l, k, rfl, rfl, h0, h1, hz, q⟩ := h
  obtain ⟨t, rfl⟩ := rx
  obtain ⟨t2, rfl⟩ := ry
  have hl : (S l).length = l.length := S_len l
  have hr : (decide (k < -(2 ^ 63 : Int)) || decide (k ≥ 2 ^ 63)) = false := by
    rw [decide_eq_false (by omega), decide_eq_false (by omega)]; rfl
  refine PySem.P.mul_str hr (fun n1 n2 => ?_) (fun n1 n2 => ?_) ?_
  · rw [hl]
    have a : (l.length : Int) ≤ 1000000 := by
      have : l.length * 1 ≤ l.length * k.toNat := Nat.mul_le_mul_left _ (by omega)
      omega
    have b : (1000000 : Int) ≤ (2 ^ 63 - 1) / k := (Int.le_ediv_iff_mul_le (by omega)).mpr (by omega)
    omega
  · rw [hl]
    show decide (l.length * k.toNat > sizeLine) = false
    have : sizeLine = 16777216 := rfl
    exact decide_eq_false (by omega)
  · by_cases c : k < 1
    · rw [if_pos c]
      have k0 : k.toNat = 0 := by omega
      rw [k0] at q
      exact ⟨by decide, ⟨.str (S []), H, I.tok _, ⟨_, rfl⟩, q⟩⟩
    · rw [if_neg c]
      by_cases d : (k == 1 || (S l).length == 0) = true
      · rw [if_pos d]
        have e : (List.replicate k.toNat l).flatten = l := by
          rw [Bool.or_eq_true] at d
          rcases d with d | d
          · have : k = 1 := by simpa using d
            subst this
            simp
          · have : l = [] := by
              rw [hl] at d
              exact List.length_eq_zero_iff.mp (by simpa using d)
            subst this
            simp
        rw [e] at q
        exact ⟨.str (S l), H, I, ⟨_, rfl⟩, q⟩
      · rw [if_neg d]
        have e : (⟨(List.replicate k.toNat (S l).cps).foldl (· ++ ·) #[]⟩ : PySem.Str) = S (List.replicate k.toNat l).flatten := by
          show PySem.Str.mk _ = PySem.Str.mk _
          rw [fold_app l]
          simp
        rw [e]
        refine ⟨?_, ⟨.str _, H, I.tok _, ⟨_, rfl⟩, q⟩⟩
        rw [S_len, List.length_flatten]
        have : sizeLine = 16777216 := rfl
        have e2 : (List.map List.length (List.replicate k.toNat l)).sum = k.toNat * l.length := by simp
        rw [e2, Nat.mul_comm]
        omega
end
/-! ### readings -/
abbrev rAddS : R2 := fun x y H Q => ∃ i j, x = .str i ∧ y = .str j ∧ i.length + j.length ≤ sizeLine ∧ Q (.str (i ++ j)) H
abbrev rJoin (K : PySem.W.Frag) : V → List V → Hp → VK → Prop := fun x xs H Q => ∃ a p, ∃ ys : List Str, x = .str a ∧ xs = [.ref p] ∧ (SqL K H p (ys.map V.str) ∨ SqT K H p (ys.map V.str)) ∧
    (ys.map (·.length)).sum + ys.length * a.length ≤ 16777216 ∧ Q (.str (Txt.join a ys)) H
abbrev sV (ls : List (List Nat)) : List V := ls.map fun l => V.str (S l)
section
variable {K : PySem.W.Frag} {σ : L2.St} {H : Hp} {ta tb te : TE} {x y z v : V} {D : Ends} {tu tz : TS} {tl th : TO}
theorem rv_addS {a b : List Nat} (h : a.length + b.length ≤ 1000000) : RV rAddS (.str (S a)) (.str (S b)) H (.str (S (a ++ b))) := fun H1 _ Q q =>
  ⟨S a, S b, rfl, rfl, by rw [S_len, S_len]; have : sizeLine = 16777216 := rfl; omega, by rw [S_cat]; exact q H1 (Ex.refl H1)⟩
theorem rv_repS {l : List Nat} {k : Int} (h0 : 0 ≤ k) (h1 : k ≤ 1000000) (hz : l.length * k.toNat ≤ 1000000) : RV rRepS (.str (S l)) (.int k) H (.str (S (List.replicate k.toNat l).flatten)) := fun H1 _ Q q => ⟨l, k, rfl, rfl, h0, h1, hz, q H1 (Ex.refl H1)⟩
theorem rv_ixSS {l : List Nat} {i : Int} {c : Nat} (h : l.length ≤ 100000) (ha : atI l i = some c) : RV rIxS (.str (S l)) (.int i) H (.str (S [c])) := rv_ixS (by rw [S_len]; exact h) (by simpa using ha)
theorem ev_slS {l : List Nat} {lo hi : Option Int} (h : Ev te σ H (.str (S l))) (h1 : EvO tl σ H lo) (h2 : EvO th σ H hi) (hz : l.length ≤ 1000000) : Ev (tSl rSlS te tl th) σ H (.str (S (cutL l lo hi))) := fun H1 e Q q =>
  h H1 e _ fun H2 e2 => h1 H2 (e.trans e2) _ fun H3 e3 => h2 H3 ((e.trans e2).trans e3) _ fun H4 e4 => ⟨S l, rfl, by rw [S_len]; have : sizeLine = 16777216 := rfl; omega, by
    rw [cutS_S]
    exact q H4 ((e2.trans e3).trans e4)⟩
theorem ev_lenSS {l : List Nat} (ha : Ev ta σ H (.str (S l))) (hs : l.length ≤ 1000000) : Ev (tCB (fun xs H Q => ∃ z : Str, xs = [.str z] ∧ z.length ≤ sizeLine ∧ Q (.int z.length) H) (tCons ta tNil)) σ H (.int (l.length : Int)) := by
  have h := ev_lenStr (s := S l) ha (by rw [S_len]; have : sizeLine = 16777216 := rfl; omega)
  rw [S_len] at h
  exact h
theorem joinL_nil : ∀ ls : List (List Nat), TL.joinL [] ls = ls.flatten
  | [] => rfl
  | [p] => by simp [TL.joinL]
  | p :: q :: r => by
    rw [TL.joinL, joinL_nil (q :: r)]
    simp
theorem sum_le {ls : List (List Nat)} {n : Nat} (h : ∀ l ∈ ls, l.length ≤ n) : (ls.map List.length).sum ≤ ls.length * n := by
  induction ls with
  | nil => simp
  | cons l ls ih =>
    have a := ih fun m hm => h m (List.mem_cons_of_mem _ hm)
    have b := h l List.mem_cons_self
    rw [List.map_cons, List.sum_cons, List.length_cons, Nat.succ_mul]
    omega
/-- ''.join(xs), xs a new list -/
theorem ev_joinL {ls : List (List Nat)} (ho : Ev ta σ H (.str (S []))) (hb : EvL tb σ H (sV ls)) (hz : (ls.map List.length).sum ≤ 1000000) : Ev (tM1 (rJoin K) ta tb) σ H (.str (S ls.flatten)) := fun H1 e Q q =>
  ho H1 e _ fun H2 e2 => ⟨⟨_, rfl⟩, hb H2 (e.trans e2) _ fun p H3 hp e3 h3 => ⟨S [], p, ls.map S, rfl, rfl, Or.inl (by rw [List.map_map]; exact sq_of h3), by
    rw [SX.lens, List.length_map]
    have : (S ([] : List Nat)).length = 0 := rfl
    rw [this, Nat.mul_zero]
    exact Nat.le_trans hz (by decide), by
    rw [SX.join_S, joinL_nil]
    exact q H3 (e2.trans e3)⟩⟩
end
/-! ### a dict whose keys are texts that were met -/
def DW (H : Hp) (d : Addr) (ws : List (List Nat)) : Prop := ∃ kvs, H d = some (.dK kvs) ∧ kvs.length ≤ ws.length ∧ ∀ w, (valV kvs (Sum.inr (S w))).isSome = decide (w ∈ ws)
theorem DW.ex {H H' : Hp} {d : Addr} {ws : List (List Nat)} (h : DW H d ws) (e : Ex H H') : DW H' d ws := by
  obtain ⟨kvs, a, b, c⟩ := h
  exact ⟨kvs, e _ _ a, b, c⟩
theorem DW.upd {H : Hp} {d p : Addr} {o : HO} {ws : List (List Nat)} (h : DW H d ws) (hp : d ≠ p) : DW (upd H p o) d ws := by
  obtain ⟨kvs, a, b, c⟩ := h
  exact ⟨kvs, by rw [upd_ne hp]; exact a, b, c⟩
theorem kV_str (w : List Nat) : (kV (Sum.inr (S w)) : V) = .str (S w) := rfl
section
variable {K : PySem.W.Frag} {σ : L2.St} {H : Hp} {ta tb te : TE} {D : Ends} {tz : TS}
theorem q_dnew {i : Nat} (k : ∀ p H1, H p = none → DW H1 p [] → Ex H H1 → tz D (σ.set i (some (.ref p))) H1) : tSeq (tAsg tDNewK (gName i)) tz D σ H := fun p hp =>
  k p _ hp ⟨[], upd_same, Nat.le_refl _, fun w => by simp [valV_nil]⟩ (Ex.new hp)
theorem ev_din {d : Addr} {w : List Nat} {ws : List (List Nat)} (ha : Ev ta σ H (.str (S w))) (hb : Ev tb σ H (.ref d)) (h : DW H d ws) : Ev (tDIn ta tb) σ H (.bl (decide (w ∈ ws))) := fun H1 e Q q =>
  ha H1 e _ fun H2 e2 => hb H2 (e.trans e2) _ fun H3 e3 => by
    obtain ⟨kvs, h1, h2, h3⟩ := h.ex ((e.trans e2).trans e3)
    exact ⟨d, _, rfl, DGet.k (k := Sum.inr (S w)) h1, by rw [h3]; exact q H3 (e2.trans e3)⟩
theorem ev_dni {d : Addr} {w : List Nat} {ws : List (List Nat)} (ha : Ev ta σ H (.str (S w))) (hb : Ev tb σ H (.ref d)) (h : DW H d ws) : Ev (tDNotIn ta tb) σ H (.bl (!decide (w ∈ ws))) := fun H1 e Q q =>
  ha H1 e _ fun H2 e2 => hb H2 (e.trans e2) _ fun H3 e3 => by
    obtain ⟨kvs, h1, h2, h3⟩ := h.ex ((e.trans e2).trans e3)
    exact ⟨d, _, rfl, DGet.k (k := Sum.inr (S w)) h1, by rw [h3]; exact q H3 (e2.trans e3)⟩
theorem dw_put {d : Addr} {w : List Nat} {ws : List (List Nat)} {v : V} {H : Hp} {kvs : List (Key × V)} (h2 : kvs.length ≤ ws.length) (h3 : ∀ w, (valV kvs (Sum.inr (S w))).isSome = decide (w ∈ ws)) : DW (upd H d (.dK (putK kvs (Sum.inr (S w)) v))) d (w :: ws) := by
  refine ⟨_, upd_same, ?_, fun u => ?_⟩
  · have : (putK kvs (Sum.inr (S w)) v).length ≤ kvs.length + 1 := by
      unfold putK
      split
      · rw [List.length_map]; omega
      · rw [List.length_append]; simp
    rw [List.length_cons]
    omega
  · rw [valV_put]
    by_cases e : u = w
    · subst e; simp
    · have e2 : ¬ (Sum.inr (S u) : Key) = Sum.inr (S w) := fun c => e (S_inj (Sum.inr.inj c))
      rw [if_neg e2, h3]
      simp [e]
/-- d[w] = True; d is not of the first heap -/
theorem s_dput {d : Addr} {w : List Nat} {ws : List (List Nat)} {v : V} (hv : Ev te σ H v) (ho : Ev tb σ H (.ref d)) (hi : Ev ta σ H (.str (S w))) (h : DW H d ws) (hl : ws.length < 100000)
    (k : ∀ H1, Ex H H1 → ∀ kvs, DW (upd H1 d (.dK kvs)) d (w :: ws) → D.nx σ (upd H1 d (.dK kvs))) : sDPut tb ta te D σ H :=
  hv H (Ex.refl H) _ fun H1 e1 => ho H1 e1 _ fun H2 e2 => hi H2 (e1.trans e2) _ fun H3 e3 => by
    obtain ⟨kvs, h1, h2, h3⟩ := h.ex ((e1.trans e2).trans e3)
    exact ⟨d, _, rfl, DPut.k (k := Sum.inr (S w)) h1 (sz_lt (by omega)), k H3 ((e1.trans e2).trans e3) _ (dw_put h2 h3)⟩
theorem q_dput {d : Addr} {w : List Nat} {ws : List (List Nat)} {v : V} (hv : Ev te σ H v) (ho : Ev tb σ H (.ref d)) (hi : Ev ta σ H (.str (S w))) (h : DW H d ws) (hl : ws.length < 100000)
    (k : ∀ H1, Ex H H1 → ∀ kvs, DW (upd H1 d (.dK kvs)) d (w :: ws) → tz D σ (upd H1 d (.dK kvs))) : tSeq (sDPut tb ta te) tz D σ H := s_dput (D := { D with nx := tz D }) hv ho hi h hl k
end
end My

set_option Elab.async false
set_option linter.all false
set_option maxRecDepth 100000
set_option maxHeartbeats 4000000
namespace My
open PySem PySem.Spec PyProof.Rows L2 Evl
open SX (S S_len S_cat S_beq S_beq_eq S_inj S_tl)
/-! ### a <= b < c <= d -/
def tChain3 (r r' r'' : R2) (ta tb tc td : TE) : L2.TT := fun σ H Q => ta σ H fun x H1 => tb σ H1 fun y H2 => r x y H2 fun z H3 => ∃ k, z = .bl k ∧
  (if k = true then tc σ H3 fun w H4 => r' y w H4 fun z2 H5 => ∃ k2, z2 = .bl k2 ∧ (if k2 = true then td σ H5 fun u H6 => r'' w u H6 fun z3 H7 => ∃ k3, z3 = .bl k3 ∧ Q k3 H7 else Q false H5) else Q false H3)
section
variable {X : Cx} {a b c d : Expr} {ta tb tc td : TE} {pos : Pos}
theorem pt_chain3 {op op' op'' : CmpOp} {r r' r'' : R2} (ho : OpR X (compareOp op) r) (ho' : OpR X (compareOp op') r') (ho'' : OpR X (compareOp op'') r'') (ha : PE X a ta) (hb : PE X b tb) (hc : PE X c tc) (hd : PE X d td)
    (hm : lastMarks [op, op', op''] [b, c, d] = false := by with_unfolding_all rfl) : PT X (.Compare a [op, op', op''] [b, c, d] pos) (tChain3 r r' r'' ta tb tc td) := by
  refine ⟨fun pins s σ H Q I h => ?_⟩
  refine isTrue_chain (thn (ha.run pins s σ H _ I h) fun v s1 ⟨x, H1, I1, r1, q1⟩ => test_link (thn (hb.run pins s1 σ H1 _ I1 q1) fun u s2 ⟨y, H2, I2, r2, q2⟩ =>
    thn (ho pins s2 σ H2 x y v u _ I2 r1 r2 q2) fun e s3 ⟨z, H3, I3, r3, k, e0, q3⟩ => ?_)) hm
  subst e0
  cases r3
  refine wpAny_truthy_bool ?_
  cases k with
  | false => exact ite_ff ⟨H3, I3, q3⟩
  | true =>
    refine ite_tt (test_link (thn (hc.run pins s3 σ H3 _ I3 q3) fun w' s4 ⟨w, H4, I4, r4, q4⟩ => thn (ho' pins s4 σ H4 y w u w' _ I4 r2 r4 q4) fun d' s5 ⟨z2, H5, I5, r5, k2, e2, q5⟩ => ?_))
    subst e2
    cases r5
    refine wpAny_truthy_bool ?_
    cases k2 with
    | false => exact ite_ff ⟨H5, I5, q5⟩
    | true =>
      refine ite_tt (test_last (thn (hd.run pins s5 σ H5 _ I5 q5) fun u' s6 ⟨u2, H6, I6, r6, q6⟩ => thn (ho'' pins s6 σ H6 w u2 w' u' _ I6 r4 r6 q6) fun d2 s7 ⟨z3, H7, I7, r7, k3, e3, q7⟩ => ?_))
      subst e3
      cases r7
      exact wpAny_truthy_bool ⟨H7, I7, q7⟩
end
section
variable {K : PySem.W.Frag} {σ : L2.St} {H : Hp} {ta tb tc td te : TE} {x y w u z v : V} {D : Ends} {tu tz : TS}
theorem et_chain3 {r r' r'' : R2} {k1 k2 k3 : Bool} (ha : Ev ta σ H x) (hb : Ev tb σ H y) (hc : Ev tc σ H w) (hd : Ev td σ H u) (h1 : RV r x y H (.bl k1)) (h2 : RV r' y w H (.bl k2)) (h3 : RV r'' w u H (.bl k3)) :
    EvT (tChain3 r r' r'' ta tb tc td) σ H (k1 && (k2 && k3)) := fun H0 e0 Q q => ha H0 e0 _ fun H1 e1 => hb H1 (e0.trans e1) _ fun H2 e2 => h1 H2 ((e0.trans e1).trans e2) _ fun H3 e3 => ⟨k1, rfl, by
    cases k1 with
    | false => exact ite_ff (q H3 ((e1.trans e2).trans e3))
    | true =>
      refine ite_tt (hc H3 (((e0.trans e1).trans e2).trans e3) _ fun H4 e4 => h2 H4 ((((e0.trans e1).trans e2).trans e3).trans e4) _ fun H5 e5 => ⟨k2, rfl, ?_⟩)
      cases k2 with
      | false => exact ite_ff (q H5 ((((e1.trans e2).trans e3).trans e4).trans e5))
      | true => exact ite_tt (hd H5 (((((e0.trans e1).trans e2).trans e3).trans e4).trans e5) _ fun H6 e6 => h3 H6 ((((((e0.trans e1).trans e2).trans e3).trans e4).trans e5).trans e6) _ fun H7 e7 => ⟨k3, rfl, q H7 ((((((e1.trans e2).trans e3).trans e4).trans e5).trans e6).trans e7)⟩)⟩
/-! ### items -/
theorem at_get {α : Type} {l : List α} {i : Int} (h0 : 0 ≤ i) (h1 : i < (l.length : Int)) : ∃ c, atI l i = some c ∧ c ∈ l := by
  obtain ⟨j, rfl⟩ : ∃ j : Nat, i = (j : Int) := ⟨i.toNat, by omega⟩
  have hj : j < l.length := by omega
  exact ⟨l[j], atI_nat (List.getElem?_eq_getElem hj), List.getElem_mem hj⟩
theorem at_str {l : Str} {i : Int} {n : Nat} (hn : l.length = n) (hz : n ≤ 100000) (h0 : 0 ≤ i) (h1 : i < (n : Int)) : ∃ c, RV rIxS (.str l) (.int i) H (.str (S [c])) := by
  obtain ⟨c, hc, _⟩ := at_get (l := l.cps.toList) h0 (by
    have : l.cps.toList.length = l.length := by simp [Str.length]
    omega)
  exact ⟨c, rv_ixS (by omega) hc⟩
theorem at_S {l : List Nat} {i : Int} (hz : l.length ≤ 100000) (h0 : 0 ≤ i) (h1 : i < (l.length : Int)) : ∃ c, c ∈ l ∧ RV rIxS (.str (S l)) (.int i) H (.str (S [c])) := by
  obtain ⟨c, hc, hm⟩ := at_get (l := l) h0 h1
  exact ⟨c, hm, rv_ixSS hz hc⟩
/-- an item of a written list of numbers -/
theorem at_ints {ns : List Int} {i : Int} (P : Int → Prop) (hP : ∀ n ∈ ns, P n) (h0 : 0 ≤ i) (h1 : i < (ns.length : Int)) : ∃ z, atI (ns.map V.int) i = some (.int z) ∧ P z := by
  obtain ⟨c, hc, hm⟩ := at_get (l := ns.map V.int) h0 (by rw [List.length_map]; exact h1)
  obtain ⟨z, hz, rfl⟩ := List.mem_map.mp hm
  exact ⟨z, hc, hP z hz⟩
theorem flat_strs (ls : List (List Nat)) : (sV ls).all flatV = true := by
  rw [List.all_eq_true]
  intro v hv
  obtain ⟨l, _, rfl⟩ := List.mem_map.mp hv
  rfl
theorem el_call2 {xs ys : List V} {sp : Sp} {E : XK} (ha : Ev ta σ H x) (hb : EvL tb σ H xs) (hs : ∀ p H1, H1 p = some (.lst xs) → Ex H H1 → SpL sp [x, .ref p] H1 ys) : EvL (tCall sp [] E (tCons ta (tCons tb tNil))) σ H ys := fun H0 e0 Q q =>
  ha H0 e0 _ fun H1 e1 => hb H1 (e0.trans e1) _ fun p H2 hp e2 h2 => hs p H2 h2 ((e0.trans e1).trans e2) H2 (Ex.refl H2) Q (fun r H3 hr e3 h3 => q r H3 (fresh_back (e1.trans e2) hr) ((e1.trans e2).trans e3) h3) E
theorem ev_ixNew {xs : List V} {i : Int} (ha : EvL ta σ H xs) (hb : ∀ H1, Ex H H1 → Ev tb σ H1 (.int i)) (h : atI xs i = some v) : Ev (tOp (rIxL K) ta tb) σ H v := fun H1 e Q q =>
  ha H1 e _ fun p H2 hp e2 h2 => hb H2 (e.trans e2) H2 (Ex.refl H2) _ fun H3 e3 => ⟨p, xs, i, v, rfl, rfl, sq_of (e3 _ _ h2), h, q H3 (e2.trans e3)⟩
/-- ''.join(sorted(xs)), fewer than 64 -/
theorem ev_joinSorted {p : Addr} {ls : List (List Nat)} {Q : VK} (ho : Ev ta σ H (.str (S []))) (hb : Ev tb σ H (.ref p)) (h : SqL K H p (sV ls)) (h64 : ls.length < 64) (hz : (ls.map List.length).sum ≤ 1000000)
    (q : ∀ (l : List Nat) H2, l.length = (ls.map List.length).sum → Ex H H2 → Q (.str (S l)) H2) : (tM1 (rJoin K) ta (tCB (rSortedS K) (tCons tb tNil))) σ H Q :=
  ho H (Ex.refl H) _ fun H1 e1 => ⟨⟨_, rfl⟩, hb H1 e1 _ fun H2 e2 => ⟨p, ls.map S, rfl, by rw [List.map_map]; exact ex_l (e1.trans e2) h, by rw [List.length_map]; exact h64, fun ys d perm _ hd =>
    ⟨S [], d, ys, rfl, rfl, Or.inl (sq_of upd_same), by
      have e : (S ([] : List Nat)).length = 0 := rfl
      have s := (perm.map (·.length)).sum_nat
      rw [SX.lens] at s
      rw [e, Nat.mul_zero, s]
      exact Nat.le_trans hz (by decide), by
      have e3 : ys = (ys.map fun y => y.cps.toList).map S := by
        rw [List.map_map]
        exact (List.map_id ys).symm.trans (List.map_congr_left fun y _ => (S_tl y).symm)
      have s := (perm.map (·.length)).sum_nat
      rw [SX.lens] at s
      rw [e3] at s ⊢
      rw [SX.join_S, joinL_nil]
      refine q _ _ ?_ ((e1.trans e2).trans (Ex.new hd))
      rw [SX.lens] at s
      rw [List.length_flatten]
      exact s⟩⟩⟩
theorem s_forS {l : List Nat} {tl : TE} {g : TG} (h : Ev tl σ H (.str (S l))) (Pv : Nat → L2.St → Hp → Prop) (h0 : ∀ H1, Ex H H1 → Pv 0 σ H1)
    (hs : ∀ i c σ H, (S l).cps[i]? = some c → Pv i σ H → g (.str ⟨#[c]⟩) σ H fun σ2 H2 => tu { D with nx := Pv (i + 1), ct := Pv (i + 1), bk := D.nx } σ2 H2) (hd : ∀ σ H, Pv (S l).cps.size σ H → D.nx σ H) : tFor (iStr tl) g tu D σ H :=
  h H (Ex.refl H) _ fun H1 e => ⟨S l, rfl, for_str Pv (h0 H1 e) hs hd⟩
end
end My

set_option Elab.async false
set_option linter.all false
set_option maxRecDepth 100000
set_option maxHeartbeats 4000000
namespace My
open PySem PySem.Spec PyProof.Rows L2 Evl
open SX (S S_len S_cat S_beq S_beq_eq S_inj S_tl)
section
variable {K : PySem.W.Frag} {σ : L2.St} {H : Hp} {ta tb tc td te : TE} {x y w u z v : V} {D : Ends} {tu tz : TS} {t : L2.TT}
theorem el_lcR2 {ta : TA} {j : Nat} {vs : List Nat} {lo n : Int} (f : Nat → Bool) (v : Nat → V) (h : EvA ta σ H [.int lo, .int n]) (hn : -10000 ≤ lo ∧ lo ≤ 10000 ∧ n ≤ 10000 ∧ -10000 ≤ n) (hw : ∀ x, wipe ((wipe σ vs).set j (some x)) vs = wipe σ vs)
    (ht : ∀ (i : Nat) H1, Ex H H1 → i < (n - lo).toNat → EvT t ((wipe σ vs).set j (some (.int (lo + (i : Int))))) H1 (f i)) (he : ∀ (i : Nat) H1, Ex H H1 → i < (n - lo).toNat → f i = true → Ev te ((wipe σ vs).set j (some (.int (lo + (i : Int))))) H1 (v i)) :
    EvL (tLc (iRng2 ta) (gName j) t te vs) σ H (given (n - lo).toNat f v) := fun H0 e Q q => h H0 e _ fun H1 e1 => ⟨lo, n, rfl, ⟨by omega, by omega, by omega, by omega⟩, fun Dl hD =>
  lc_range (lo := lo) (n := (n - lo).toNat) (Cw H1 f v Dl) ⟨hD, Ex.new hD, upd_same⟩ (fun i H' hi p => ⟨hw _, cw_turn p (by omega) (ht i H1 (e.trans e1) hi) (fun hf => he i H1 (e.trans e1) hi hf)⟩) (fun H' p => q Dl H' (fresh_back e1 p.1) (e1.trans p.2.1) p.2.2)⟩
theorem lc_str {x : Str} {g : TG} {tt : L2.TT} {te : TE} {vs : List Nat} {σ : L2.St} {H1 : Hp} {D : Addr} {Qd : Hp → Prop} (Pv : Nat → Hp → Prop) (h0 : Pv 0 (upd H1 D (.lst [])))
    (hs : ∀ i c H, x.cps[i]? = some c → Pv i H → g (.str ⟨#[c]⟩) (wipe σ vs) H fun σ2 H2 => wipe σ2 vs = wipe σ vs ∧ tt σ2 H2 fun b H3 =>
      if b = true then te σ2 H3 fun y H4 => ∃ acc, H4 D = some (.lst acc) ∧ acc.length < sizeLine ∧ Pv (i + 1) (upd H4 D (.lst (acc ++ [y]))) else Pv (i + 1) H3) (hd : ∀ H, Pv x.cps.size H → Qd H) :
    ∃ W : Nat → Nat → Hp → Prop, (∃ m, W 0 m (upd H1 D (.lst []))) ∧ ∀ i m H, W i m H →
      ((Its x).stop i H ∧ Qd H) ∨ ((Its x).go i H ∧ ∃ Nx : Hp → Prop, (∀ H', Nx H' → ∃ m', m' < m ∧ W (i + 1) m' H') ∧ ∀ y H', (Its x).yld i H y H' → g y (wipe σ vs) H' fun σ2 H2 => wipe σ2 vs = wipe σ vs ∧ tt σ2 H2 fun b H3 =>
        if b = true then te σ2 H3 fun y H4 => ∃ acc, H4 D = some (.lst acc) ∧ acc.length < sizeLine ∧ Nx (upd H4 D (.lst (acc ++ [y]))) else Nx H3) := by
  refine ⟨fun i m H => m = x.cps.size - i ∧ i ≤ x.cps.size ∧ Pv i H, ⟨x.cps.size, by simp, Nat.zero_le _, h0⟩, ?_⟩
  rintro i m H ⟨rfl, hi, p⟩
  by_cases hlt : i < x.cps.size
  · refine .inr ⟨hlt, Pv (i + 1), fun H' p' => ⟨x.cps.size - (i + 1), by omega, rfl, hlt, p'⟩, fun y H' z => ?_⟩
    obtain ⟨e, c, hc, rfl⟩ := z
    subst e
    exact hs i c _ hc p
  · have e : i = x.cps.size := by omega
    subst e
    exact .inl ⟨Nat.le_refl _, hd H p⟩
theorem el_lcS {l : List Nat} {tl : TE} {j : Nat} {vs : List Nat} (f : Nat → Bool) (v : Nat → V) (h : Ev tl σ H (.str (S l))) (hz : l.length ≤ 40000) (hw : ∀ x, wipe ((wipe σ vs).set j (some x)) vs = wipe σ vs)
    (ht : ∀ (i c : Nat) H1, Ex H H1 → l[i]? = some c → EvT t ((wipe σ vs).set j (some (.str (S [c])))) H1 (f i)) (he : ∀ (i c : Nat) H1, Ex H H1 → l[i]? = some c → f i = true → Ev te ((wipe σ vs).set j (some (.str (S [c])))) H1 (v i)) :
    EvL (tLc (iStr tl) (gName j) t te vs) σ H (given l.length f v) := fun H0 e Q q => h H0 e _ fun H1 e1 => ⟨S l, rfl, fun Dl hD => by
  have hsz : (S l).cps.size = l.length := by simp
  refine lc_str (x := S l) (Cw H1 f v Dl) ⟨hD, Ex.new hD, upd_same⟩ (fun i c H' hi p => ?_) (fun H' p => ?_)
  · have hi2 : l[i]? = some c := by simpa using hi
    have := (List.getElem?_eq_some_iff.mp hi2).1
    exact ⟨hw _, cw_turn p (by omega) (ht i c H1 (e.trans e1) hi2) (fun hf => he i c H1 (e.trans e1) hi2 hf)⟩
  · rw [hsz] at p
    exact q Dl H' (fresh_back e1 p.1) (e1.trans p.2.1) p.2.2⟩
/-- the texts made, as a list -/
theorem given_S (g : Nat → List Nat) : ∀ n, given n (fun _ => true) (fun i => V.str (S (g i))) = sV ((List.range n).map g)
  | 0 => rfl
  | n + 1 => by
    rw [given_yes rfl, given_S g n, List.range_succ, List.map_append]
    show _ = List.map _ (List.map g (List.range n) ++ [g n])
    rw [List.map_append]
    rfl
theorem sum_range (g : Nat → List Nat) (b : Nat) (h : ∀ i, (g i).length ≤ b) (n : Nat) : (((List.range n).map g).map List.length).sum ≤ n * b := by
  have := sum_le (ls := (List.range n).map g) (n := b) fun l hl => by
    obtain ⟨i, _, rfl⟩ := List.mem_map.mp hl
    exact h i
  rw [List.length_map, List.length_range] at this
  exact this
theorem len_range (g : Nat → List Nat) (b : Nat) (h : ∀ i, (g i).length = b) : ∀ n, (((List.range n).map g).flatten).length = n * b
  | 0 => by simp
  | n + 1 => by
    rw [List.range_succ, List.map_append, List.flatten_append, List.length_append, len_range g b h n, Nat.succ_mul]
    simp [h]
theorem len_range_le (g : Nat → List Nat) (b : Nat) (h : ∀ i, (g i).length ≤ b) (n : Nat) : (((List.range n).map g).flatten).length ≤ n * b := by
  rw [List.length_flatten]
  exact sum_range g b h n
end
end My

set_option Elab.async false
set_option linter.all false
set_option maxRecDepth 100000
set_option maxHeartbeats 4000000
namespace My
open PySem PySem.Spec PyProof.Rows L2 Evl
/-! ### lists of natural numbers, min and max, repr of a number -/
abbrev nV (l : List Nat) : List V := l.map fun (n : Nat) => V.int (n : Int)
theorem at_nV {l : List Nat} {i : Nat} (h : i < l.length) : atI (nV l) (i : Int) = some (.int (l.getD i 0 : Nat)) := by
  have e : ixN (nV l).length (i : Int) = some i := by
    unfold ixN
    rw [List.length_map, if_pos (by omega), if_pos (by omega)]
    simp
  unfold atI
  rw [e]
  show (nV l)[i]? = _
  rw [List.getElem?_map, List.getElem?_eq_getElem h, List.getD_eq_getElem?_getD, List.getElem?_eq_getElem h]
  rfl
theorem nV_len (l : List Nat) : (nV l).length = l.length := List.length_map _
abbrev nI (l : List Nat) : List Int := l.map fun (n : Nat) => (n : Int)
theorem nV_nI (l : List Nat) : nV l = (nI l).map V.int := by rw [List.map_map]; rfl
theorem sum_nI (l : List Nat) : (nI l).sum = ((l.sum : Nat) : Int) := by
  induction l with
  | nil => rfl
  | cons a l ih =>
    show (a : Int) + (nI l).sum = _
    rw [List.sum_cons, ih, Int.natCast_add]
theorem nV_app (l : List Nat) (n : Nat) : nV l ++ [V.int (n : Int)] = nV (l ++ [n]) := by simp [nV]
theorem nV_set (l : List Nat) (i n : Nat) : (nV l).set i (V.int (n : Int)) = nV (l.set i n) := by simp [nV, List.map_set]
section
variable {K : PySem.W.Frag} {σ : L2.St} {H : Hp} {ta tb tc te : TE}
def mn3 (a b c : Int) : Int := if c < (if b < a then b else a) then c else (if b < a then b else a)
theorem num3 (a b c : Int) : nuMin3 (.int a) (.int b) (.int c) = some (.int (mn3 a b c)) := by
  have h : ∀ i j : Int, nuLt (.int i) (.int j) = some (decide (i < j)) := fun _ _ => rfl
  unfold nuMin3 nuMin2 mn3
  rw [h]
  by_cases h1 : b < a
  · simp only [h1, decide_true, Option.map_some, Option.bind_some, if_true, h]
    by_cases h2 : c < b <;> simp [h2]
  · simp only [h1, decide_false, Option.map_some, Option.bind_some, if_false, h]
    by_cases h2 : c < a <;> simp [h2, h]
theorem ev_min3 {a b c : Int} (ha : Ev ta σ H (.int a)) (hb : Ev tb σ H (.int b)) (hc : Ev tc σ H (.int c)) : Ev (tCB (rNuC3 nuMin3) (tCons ta (tCons tb (tCons tc tNil)))) σ H (.int (mn3 a b c)) := fun H1 e Q q =>
  ha H1 e _ fun H2 e2 => hb H2 (e.trans e2) _ fun H3 e3 => hc H3 ((e.trans e2).trans e3) _ fun H4 e4 => ⟨_, _, _, _, rfl, num3 a b c, q H4 ((e2.trans e3).trans e4)⟩
def rReprI : List V → Hp → VK → Prop := fun xs H Q => ∃ i : Int, xs = [.int i] ∧ i.natAbs.log2 < 1920 ∧ Q (.str (toString i)) H
theorem cr_reprI {X : Cx} : CallR X (.builtin "repr") rReprI := SkE.call_repr_int
theorem ev_reprI {i : Int} (h : Ev te σ H (.int i)) (hb : i.natAbs.log2 < 1920) : Ev (tCB rReprI (tCons te tNil)) σ H (.str (toString i)) := fun H1 e Q q => h H1 e _ fun H2 e2 => ⟨i, rfl, hb, q H2 e2⟩
/-- min and max of a new list of numbers, told by what they are -/
theorem ev_minL {ns : List Int} {v : Int} (h : EvL te σ H (ns.map V.int)) (hne : 0 < ns.length) (hv : ∀ m, m ∈ ns → (∀ y, y ∈ ns → m ≤ y) → m = v) : Ev (tCB (rMin K) (tCons te tNil)) σ H (.int v) := fun H1 e Q q => h H1 e _ fun p H2 _ e2 h2 =>
  ⟨p, ns, rfl, sq_of h2, hne, fun m h1 h3 => by rw [hv m h1 h3]; exact q H2 e2⟩
theorem ev_maxL {ns : List Int} {v : Int} (h : EvL te σ H (ns.map V.int)) (hne : 0 < ns.length) (hv : ∀ m, m ∈ ns → (∀ y, y ∈ ns → y ≤ m) → m = v) : Ev (tCB (rMax K) (tCons te tNil)) σ H (.int v) := fun H1 e Q q => h H1 e _ fun p H2 _ e2 h2 =>
  ⟨p, ns, rfl, sq_of h2, hne, fun m h1 h3 => by rw [hv m h1 h3]; exact q H2 e2⟩
/-- the sum of a list that stands -/
theorem ev_sumR {p : Addr} {ns : List Int} (h : Ev te σ H (.ref p)) (hS : SqL K H p (ns.map V.int)) : Ev (tCB (rSum K) (tCons te tNil)) σ H (.int ns.sum) := fun H1 e Q q => h H1 e _ fun H2 e2 => ⟨p, ns, rfl, ex_l (e.trans e2) hS, q H2 e2⟩
theorem min2_nat (a b : Nat) : (if (b : Int) < (a : Int) then (b : Int) else (a : Int)) = ((min a b : Nat) : Int) := by split <;> omega
end
end My

set_option Elab.async false
set_option linter.all false
set_option maxRecDepth 100000
set_option maxHeartbeats 4000000
namespace My
open PySem PySem.Spec PyProof.Rows L2 Evl
section
variable {K : PySem.W.Frag} {σ : L2.St} {H : Hp} {ta tb tc td te : TE} {x y w u z v : V} {D : Ends} {tu tz : TS}
theorem et_chain {r r' : R2} {k1 k2 : Bool} (ha : Ev ta σ H x) (hb : Ev tb σ H y) (hc : Ev tc σ H w) (h1 : RV r x y H (.bl k1)) (h2 : RV r' y w H (.bl k2)) : EvT (tTest (tChain r r' ta tb tc)) σ H (k1 && k2) :=
  et_test fun H0 e0 Q q => ha H0 e0 _ fun H1 e1 => hb H1 (e0.trans e1) _ fun H2 e2 => h1 H2 ((e0.trans e1).trans e2) _ fun H3 e3 => ⟨k1, rfl, by
    cases k1 with
    | false => exact ite_ff (q H3 ((e1.trans e2).trans e3))
    | true => exact ite_tt (hc H3 (((e0.trans e1).trans e2).trans e3) _ fun H4 e4 => h2 H4 ((((e0.trans e1).trans e2).trans e3).trans e4) _ fun H5 e5 => q H5 ((((e1.trans e2).trans e3).trans e4).trans e5))⟩
/-- list(range(n)) -/
theorem el_listRg {n : Int} (h : Ev te σ H (.int n)) (h0 : 0 ≤ n) (h1 : n ≤ 40000) : EvL (tLstRg (tRg1 te)) σ H (rgV 0 n) := fun H1 e Q q =>
  h H1 e _ fun H2 e2 => ⟨n, rfl, by unfold RgOk; omega, fun l hl => q l _ (fresh_back e2 hl) (e2.trans (Ex.new hl)) upd_same⟩
theorem rgV_nat (n : Nat) : rgV 0 (n : Int) = nV (List.range n) := by
  unfold rgV nV
  rw [Int.sub_zero, Int.toNat_natCast]
  refine List.map_congr_left fun i _ => ?_
  rw [Int.zero_add]
/-- a call with two new lists -/
theorem q_callLL {i : Nat} {xs ys : List V} {sp : Sp} {E : XK} (ha : EvL ta σ H xs) (hb : EvL tb σ H ys)
    (k : ∀ p q H1, Ex H H1 → H1 p = some (.lst xs) → H1 q = some (.lst ys) → sp [.ref p, .ref q] H1 (fun x H2 => tz D (σ.set i (some x)) H2) E) : tSeq (tAsg (tCall sp [] E (tCons ta (tCons tb tNil))) (gName i)) tz D σ H :=
  ha H (Ex.refl H) _ fun p H1 hp e1 h1 => hb H1 e1 _ fun q H2 hq e2 h2 => k p q H2 (e1.trans e2) (e2 _ _ h1) h2
theorem q_callVL {i : Nat} {ys : List V} {sp : Sp} {E : XK} (ha : Ev ta σ H x) (hb : EvL tb σ H ys)
    (k : ∀ q H1, Ex H H1 → H1 q = some (.lst ys) → sp [x, .ref q] H1 (fun x H2 => tz D (σ.set i (some x)) H2) E) : tSeq (tAsg (tCall sp [] E (tCons ta (tCons tb tNil))) (gName i)) tz D σ H :=
  ha H (Ex.refl H) _ fun H1 e1 => hb H1 e1 _ fun q H2 hq e2 h2 => k q H2 (e1.trans e2) h2
/-- a call whose second argument of four is a new list -/
theorem ev_call4L2 {xs : List V} {sp : Sp} {E : XK} (ha : Ev ta σ H x) (hb : EvL tb σ H xs) (hc : Ev tc σ H y) (hd : Ev td σ H w) (hs : ∀ p H1, H1 p = some (.lst xs) → Ex H H1 → SpV sp [x, .ref p, y, w] H1 z) :
    Ev (tCall sp [] E (tCons ta (tCons tb (tCons tc (tCons td tNil))))) σ H z := fun H0 e0 Q q =>
  ha H0 e0 _ fun H1 e1 => hb H1 (e0.trans e1) _ fun p H2 hp e2 h2 => hc H2 ((e0.trans e1).trans e2) _ fun H3 e3 => hd H3 (((e0.trans e1).trans e2).trans e3) _ fun H4 e4 =>
    hs p H4 (e4 _ _ (e3 _ _ h2)) ((((e0.trans e1).trans e2).trans e3).trans e4) H4 (Ex.refl H4) Q (fun H5 e5 => q H5 ((((e1.trans e2).trans e3).trans e4).trans e5)) E
theorem q_callLV {i : Nat} {xs : List V} {sp : Sp} {E : XK} (ha : EvL ta σ H xs) (hb : Ev tb σ H y)
    (k : ∀ q H1, Ex H H1 → H1 q = some (.lst xs) → sp [.ref q, y] H1 (fun x H2 => tz D (σ.set i (some x)) H2) E) : tSeq (tAsg (tCall sp [] E (tCons ta (tCons tb tNil))) (gName i)) tz D σ H :=
  ha H (Ex.refl H) _ fun q H1 hq e1 h1 => hb H1 e1 _ fun H2 e2 => k q H2 (e1.trans e2) (e2 _ _ h1)
/-- over range(n), n may be below 0 -/
theorem el_lcRz {ta : TA} {t : L2.TT} {j : Nat} {vs : List Nat} {n : Int} (f : Nat → Bool) (v : Nat → V) (h : EvA ta σ H [.int n]) (hn : -40000 ≤ n ∧ n ≤ 40000) (hw : ∀ x, wipe ((wipe σ vs).set j (some x)) vs = wipe σ vs)
    (ht : ∀ (i : Nat) H1, Ex H H1 → (i : Int) < n → EvT t ((wipe σ vs).set j (some (.int (i : Int)))) H1 (f i)) (he : ∀ (i : Nat) H1, Ex H H1 → (i : Int) < n → f i = true → Ev te ((wipe σ vs).set j (some (.int (i : Int)))) H1 (v i)) :
    EvL (tLc (iRng1 ta) (gName j) t te vs) σ H (given n.toNat f v) := fun H0 e Q q => h H0 e _ fun H1 e1 => ⟨n, rfl, by omega, by omega, fun Dl hD =>
  lc_range (lo := 0) (n := n.toNat) (Cw H1 f v Dl) ⟨hD, Ex.new hD, upd_same⟩ (fun i H' hi p => by
    have e0 : (0 : Int) + (i : Int) = (i : Int) := Int.zero_add _
    show wipe ((wipe σ vs).set j (some (.int ((0 : Int) + (i : Int))))) vs = wipe σ vs ∧ t ((wipe σ vs).set j (some (.int ((0 : Int) + (i : Int))))) H' fun b H3 => if b = true then te ((wipe σ vs).set j (some (.int ((0 : Int) + (i : Int))))) H3 fun y H4 => ∃ acc, H4 Dl = some (.lst acc) ∧ acc.length < sizeLine ∧ Cw H1 f v Dl (i + 1) (upd H4 Dl (.lst (acc ++ [y]))) else Cw H1 f v Dl (i + 1) H3
    rw [e0]
    exact ⟨hw _, cw_turn p (by omega) (ht i H1 (e.trans e1) (by omega)) (fun hf => he i H1 (e.trans e1) (by omega) hf)⟩) (fun H' p => q Dl H' (fresh_back e1 p.1) (e1.trans p.2.1) p.2.2)⟩
/-- the least, the greatest of a new list, given to a name -/
theorem q_minL {i : Nat} {ns : List Int} (h : EvL te σ H (ns.map V.int)) (hne : 0 < ns.length) (k : ∀ m, m ∈ ns → (∀ y, y ∈ ns → m ≤ y) → ∀ H1, Ex H H1 → tz D (σ.set i (some (.int m))) H1) : tSeq (tAsg (tCB (rMin K) (tCons te tNil)) (gName i)) tz D σ H :=
  h H (Ex.refl H) _ fun p H1 _ e1 h1 => ⟨p, ns, rfl, sq_of h1, hne, fun m a b => k m a b H1 e1⟩
theorem q_maxL {i : Nat} {ns : List Int} (h : EvL te σ H (ns.map V.int)) (hne : 0 < ns.length) (k : ∀ m, m ∈ ns → (∀ y, y ∈ ns → y ≤ m) → ∀ H1, Ex H H1 → tz D (σ.set i (some (.int m))) H1) : tSeq (tAsg (tCB (rMax K) (tCons te tNil)) (gName i)) tz D σ H :=
  h H (Ex.refl H) _ fun p H1 _ e1 h1 => ⟨p, ns, rfl, sq_of h1, hne, fun m a b => k m a b H1 e1⟩
end
theorem log2_small {n : Nat} (h : n < 2 ^ 1000) : ((n : Nat) : Int).natAbs.log2 < 1920 := by
  rw [Int.natAbs_natCast]
  by_cases z : n = 0
  · subst z; decide
  · have := (Nat.log2_lt z).mpr h
    omega
theorem within_cons {ds : List Int} {s : Int} {ss : List Int} (h : Within ds (s :: ss)) : ∃ d rest, ds = d :: rest ∧ (0 ≤ d ∧ d < s) ∧ Within rest ss := by
  cases ds with
  | nil => exact h.elim
  | cons d rest => exact ⟨d, rest, rfl, h.1, h.2⟩
theorem sum_range_succ (f : Nat → Nat) (n : Nat) : ((List.range (n + 1)).map f).sum = f 0 + ((List.range n).map fun i => f (i + 1)).sum := by
  rw [List.range_succ_eq_map, List.map_cons, List.sum_cons, List.map_map]
  rfl
theorem sum_range_last (f : Nat → Nat) (n : Nat) : ((List.range (n + 1)).map f).sum = ((List.range n).map f).sum + f n := by
  rw [List.range_succ, List.map_append, List.sum_append]
  simp
end My

set_option linter.all false
namespace My
/-- how many strings there is room for: empty ones, then those of 1, 2, .. bits -/
def Rm (e s : Nat) : Nat → Nat
  | 0 => e
  | k + 1 => s * 2 ^ (k + 1)
def Cm (e s : Nat) : Nat → Nat
  | 0 => 0
  | k + 1 => Cm e s k + Rm e s k
def Tm (e s n : Nat) : Nat → Nat
  | 0 => 0
  | k + 1 => Tm e s n k + (n - Cm e s (k + 1))
def totE (e s n : Nat) : Nat := Tm e s n (n + 1)
theorem Cm_mono (e s : Nat) {i j : Nat} (h : i ≤ j) : Cm e s i ≤ Cm e s j := by
  induction h with
  | refl => exact Nat.le_refl _
  | step _ ih => exact Nat.le_trans ih (Nat.le_add_right _ _)
theorem Cm_big {e s : Nat} (hs : 1 ≤ s) : ∀ k, 2 ^ k ≤ Cm e s k + 2
  | 0 => by show 1 ≤ 2; decide
  | 1 => by show 2 ≤ 0 + e + 2; omega
  | k + 2 => by
    have ih := Cm_big (e := e) hs (k + 1)
    have h1 : 2 ^ (k + 1) ≤ s * 2 ^ (k + 1) := Nat.le_mul_of_pos_left _ hs
    have h2 : Cm e s (k + 2) = Cm e s (k + 1) + s * 2 ^ (k + 1) := rfl
    have h3 : 2 ^ (k + 2) = 2 ^ (k + 1) + 2 ^ (k + 1) := by rw [Nat.pow_succ]; omega
    omega
theorem two_pow_gt : ∀ n : Nat, n + 2 ≤ 2 ^ (n + 1)
  | 0 => by decide
  | n + 1 => by
    have ih := two_pow_gt n
    have h3 : 2 ^ (n + 2) = 2 ^ (n + 1) + 2 ^ (n + 1) := by rw [Nat.pow_succ]; omega
    show n + 1 + 2 ≤ 2 ^ (n + 2)
    omega
theorem Tm_stay {e s n k : Nat} (h : n ≤ Cm e s k) : ∀ j, Tm e s n (k + j) = Tm e s n k
  | 0 => rfl
  | j + 1 => by
    show Tm e s n (k + j) + (n - Cm e s (k + j + 1)) = _
    have := Cm_mono e s (show k ≤ k + j + 1 by omega)
    rw [Tm_stay h j, Nat.sub_eq_zero_of_le (Nat.le_trans h this), Nat.add_zero]
theorem tot_is {e s n k : Nat} (hs : 1 ≤ s) (h : n ≤ Cm e s k) : Tm e s n k = totE e s n := by
  have h2 : n ≤ Cm e s (n + 1) := by
    have := Cm_big (e := e) hs (n + 1)
    have := two_pow_gt n
    omega
  unfold totE
  by_cases hk : k ≤ n + 1
  · rw [show n + 1 = k + (n + 1 - k) by omega, Tm_stay h]
  · rw [show k = n + 1 + (k - (n + 1)) by omega, Tm_stay h2]
/-- one turn of a loop that uses the lengths up -/
theorem tot_turn {e s n k t : Nat} (h : t + k * (n - Cm e s k) = Tm e s n k) : t + k * min (n - Cm e s k) (Rm e s k) + (k + 1) * (n - Cm e s (k + 1)) = Tm e s n (k + 1) := by
  have h1 : n - Cm e s (k + 1) = n - Cm e s k - Rm e s k := by show n - (Cm e s k + Rm e s k) = _; omega
  show _ = Tm e s n k + (n - Cm e s (k + 1))
  rw [h1, ← h]
  generalize n - Cm e s k = r
  generalize Rm e s k = R
  have h2 : min r R = r - (r - R) := by omega
  have h3 : r - R ≤ r := by omega
  rw [h2, Nat.mul_sub, Nat.add_mul, Nat.one_mul]
  have h4 : k * (r - R) ≤ k * r := Nat.mul_le_mul_left _ h3
  omega
theorem Rm_same (s k : Nat) : Rm s s k = s * 2 ^ k := by cases k with
  | zero => show s = s * 1; rw [Nat.mul_one]
  | succ k => rfl
/-! ### lists of rooms and uses -/
def Gs : Nat → List Nat → Nat
  | _, [] => 0
  | m, r :: rs => (m - r) + Gs (m - r) rs
def SS : List Nat → Nat
  | [] => 0
  | _ :: us => us.sum + SS us
def lenS : Nat → List Nat → Nat
  | _, [] => 0
  | k, u :: us => k * u + lenS (k + 1) us
def Bd : List Nat → List Nat → Prop
  | [], [] => True
  | r :: rs, u :: us => u ≤ r ∧ Bd rs us
  | _, _ => False
def tightF : Bool → List Nat → List Nat → Bool
  | g, r :: rs, u :: us => if g = true ∧ 0 < u then false else tightF (g || decide (u < r)) rs us
  | _, _, _ => true
theorem lenS_SS : ∀ (k : Nat) (us : List Nat), lenS k us = k * us.sum + SS us
  | k, [] => by simp [lenS, SS]
  | k, u :: us => by
    show k * u + lenS (k + 1) us = k * (u :: us).sum + (us.sum + SS us)
    rw [lenS_SS (k + 1) us, List.sum_cons, Nat.add_mul, Nat.mul_add]
    omega
theorem Gs_le : ∀ {rs us : List Nat} {m : Nat}, Bd rs us → m ≤ us.sum → Gs m rs ≤ SS us
  | [], [], _, _, _ => Nat.le_refl _
  | r :: rs, u :: us, m, h, hm => by
    rw [List.sum_cons] at hm
    obtain ⟨hu, hb⟩ := h
    have h1 : m - r ≤ us.sum := by omega
    have := Gs_le hb h1
    show (m - r) + Gs (m - r) rs ≤ us.sum + SS us
    omega
  | [], _ :: _, _, h, _ => h.elim
  | _ :: _, [], _, h, _ => h.elim
theorem SS_zero : ∀ {us : List Nat}, us.sum = 0 → SS us = 0
  | [], _ => rfl
  | u :: us, h => by
    rw [List.sum_cons] at h
    have h1 : us.sum = 0 := by omega
    show us.sum + SS us = 0
    rw [h1, SS_zero h1]
theorem Gs_zero : ∀ rs : List Nat, Gs 0 rs = 0
  | [] => rfl
  | r :: rs => by show (0 - r) + Gs (0 - r) rs = 0; rw [Nat.zero_sub, Gs_zero rs]
theorem tight_true : ∀ {rs us : List Nat}, Bd rs us → (tightF true rs us = true ↔ us.sum = 0)
  | [], [], _ => by simp [tightF]
  | r :: rs, u :: us, h => by
    have ih := tight_true h.2
    unfold tightF
    by_cases hu : 0 < u
    · rw [if_pos ⟨rfl, hu⟩, List.sum_cons]
      simp
      omega
    · rw [if_neg (by simp [hu]), Bool.true_or, ih, List.sum_cons]
      omega
  | [], _ :: _, h => h.elim
  | _ :: _, [], h => h.elim
theorem Gs_eq : ∀ {rs us : List Nat}, Bd rs us → (Gs us.sum rs = SS us ↔ tightF false rs us = true)
  | [], [], _ => by simp [tightF, Gs, SS]
  | r :: rs, u :: us, h => by
    obtain ⟨hu, hb⟩ := h
    show ((u :: us).sum - r) + Gs ((u :: us).sum - r) rs = us.sum + SS us ↔ _
    rw [List.sum_cons]
    unfold tightF
    rw [if_neg (by simp), Bool.false_or]
    by_cases hlt : u < r
    · rw [decide_eq_true hlt, tight_true hb]
      constructor
      · intro he
        by_cases hz : us.sum = 0
        · exact hz
        · have := Gs_le hb (show u + us.sum - r ≤ us.sum by omega)
          omega
      · intro hz
        have e1 : u + us.sum - r = 0 := by omega
        rw [e1, Gs_zero, SS_zero hz]
        omega
    · have e1 : u + us.sum - r = us.sum := by omega
      rw [decide_eq_false hlt, e1, ← Gs_eq hb]
      omega
  | [], _ :: _, h => h.elim
  | _ :: _, [], h => h.elim
def roomL (e s m : Nat) : List Nat := (List.range m).map (Rm e s)
theorem roomL_succ (e s m : Nat) : roomL e s (m + 1) = roomL e s m ++ [Rm e s m] := by
  unfold roomL
  rw [List.range_succ, List.map_append]
  rfl
theorem roomL_len (e s m : Nat) : (roomL e s m).length = m := by simp [roomL]
theorem roomL_sum (e s : Nat) : ∀ m, (roomL e s m).sum = Cm e s m
  | 0 => rfl
  | m + 1 => by rw [roomL_succ, List.sum_append, roomL_sum e s m]; simp [Cm]
theorem Gs_app : ∀ (rs : List Nat) (n r : Nat), Gs n (rs ++ [r]) = Gs n rs + (n - (rs.sum + r))
  | [], n, r => by simp [Gs]
  | a :: rs, n, r => by
    show (n - a) + Gs (n - a) (rs ++ [r]) = (n - a) + Gs (n - a) rs + _
    rw [Gs_app rs, List.sum_cons]
    have : n - a - (rs.sum + r) = n - (a + rs.sum + r) := by omega
    omega
theorem Gs_room (e s n : Nat) : ∀ m, Gs n (roomL e s m) = Tm e s n m
  | 0 => rfl
  | m + 1 => by rw [roomL_succ, Gs_app, Gs_room e s n m, roomL_sum]; rfl
theorem Bd_sum : ∀ {rs us : List Nat}, Bd rs us → us.sum ≤ rs.sum
  | [], [], _ => Nat.le_refl _
  | r :: rs, u :: us, h => by
    have := Bd_sum h.2
    have := h.1
    rw [List.sum_cons, List.sum_cons]
    omega
  | [], _ :: _, h => h.elim
  | _ :: _, [], h => h.elim
/-- no choice has fewer bits, and as many exactly if it is tight -/
theorem choice_le {e s m : Nat} {us : List Nat} (hs : 1 ≤ s) (h : Bd (roomL e s m) us) : totE e s us.sum ≤ lenS 0 us ∧ (totE e s us.sum = lenS 0 us ↔ tightF false (roomL e s m) us = true) := by
  have h1 : us.sum ≤ Cm e s m := by rw [← roomL_sum]; exact Bd_sum h
  rw [← tot_is hs h1, ← Gs_room, lenS_SS, Nat.zero_mul, Nat.zero_add]
  exact ⟨Gs_le h (Nat.le_refl _), Gs_eq h⟩
theorem Bd.len : ∀ {rs us : List Nat}, Bd rs us → us.length = rs.length
  | [], [], _ => rfl
  | _ :: _, _ :: _, h => congrArg Nat.succ h.2.len
  | [], _ :: _, h => h.elim
  | _ :: _, [], h => h.elim
theorem Bd_of : ∀ {rs us : List Nat}, us.length = rs.length → (∀ i, i < rs.length → us.getD i 0 ≤ rs.getD i 0) → Bd rs us
  | [], [], _, _ => trivial
  | r :: rs, u :: us, hl, h => ⟨h 0 (by simp), Bd_of (by simpa using hl) fun i hi => by have := h (i + 1) (by simpa using hi); simpa using this⟩
  | [], _ :: _, hl, _ => by simp at hl
  | _ :: _, [], hl, _ => by simp at hl
theorem Bd.get : ∀ {rs us : List Nat}, Bd rs us → ∀ i, us.getD i 0 ≤ rs.getD i 0
  | [], [], _, _ => Nat.le_refl _
  | _ :: _, _ :: _, h, 0 => h.1
  | _ :: _, _ :: _, h, i + 1 => by simpa using h.2.get i
  | [], _ :: _, h, _ => h.elim
  | _ :: _, [], h, _ => h.elim
end My

set_option linter.all false
namespace My
/-- the length of the word number k -/
def lev (k : Nat) : Nat := (if 1 ≤ k then 1 else 0) + (if 3 ≤ k then 1 else 0) + (if 7 ≤ k then 1 else 0) + (if 15 ≤ k then 1 else 0)
def wS : Nat → List Nat → Nat
  | _, [] => 0
  | k, u :: us => lev k * u + wS (k + 1) us
def hi (c : Nat) : Nat → List Nat → Nat
  | _, [] => 0
  | k, u :: us => (if c ≤ k then u else 0) + hi c (k + 1) us
def lo (c : Nat) : Nat → List Nat → Nat
  | _, [] => 0
  | k, u :: us => (if c ≤ k then 0 else u) + lo c (k + 1) us
theorem wS_hi : ∀ (k : Nat) (us : List Nat), wS k us = hi 1 k us + hi 3 k us + hi 7 k us + hi 15 k us
  | _, [] => rfl
  | k, u :: us => by
    show lev k * u + wS (k + 1) us = _
    have e : ∀ c, hi c k (u :: us) = (if c ≤ k then u else 0) + hi c (k + 1) us := fun _ => rfl
    rw [wS_hi (k + 1) us, e, e, e, e]
    unfold lev
    have h : ∀ (p q r t : Prop) [Decidable p] [Decidable q] [Decidable r] [Decidable t], ((if p then 1 else 0) + (if q then 1 else 0) + (if r then 1 else 0) + (if t then 1 else 0)) * u = (if p then u else 0) + (if q then u else 0) + (if r then u else 0) + (if t then u else 0) := by
      intro p q r t _ _ _ _
      split <;> split <;> split <;> split <;> omega
    rw [h]
    omega
theorem hi_lo (c : Nat) : ∀ (k : Nat) (us : List Nat), hi c k us + lo c k us = us.sum
  | _, [] => rfl
  | k, u :: us => by
    have := hi_lo c (k + 1) us
    rw [List.sum_cons]
    unfold hi lo
    split <;> omega
theorem lo_le (c : Nat) : ∀ (k : Nat) {rs us : List Nat}, Bd rs us → lo c k us ≤ lo c k rs
  | _, [], [], _ => Nat.le_refl _
  | k, r :: rs, u :: us, h => by
    have := lo_le c (k + 1) h.2
    have := h.1
    unfold lo
    split <;> omega
  | _, [], _ :: _, h => h.elim
  | _, _ :: _, [], h => h.elim
theorem lo_eq (c : Nat) : ∀ (k : Nat) {rs us : List Nat}, Bd rs us → (lo c k us = lo c k rs ↔ ∀ i, i < rs.length → k + i < c → us.getD i 0 = rs.getD i 0)
  | _, [], [], _ => by simp
  | k, r :: rs, u :: us, h => by
    have ih := lo_eq c (k + 1) h.2
    have hl := lo_le c (k + 1) h.2
    have hu := h.1
    constructor
    · intro e i hi hk
      unfold lo at e
      cases i with
      | zero => rw [if_neg (by omega), if_neg (by omega)] at e; simp; omega
      | succ i =>
        have e2 : lo c (k + 1) us = lo c (k + 1) rs := by split at e <;> omega
        have := ih.mp e2 i (by simpa using hi) (by omega)
        simpa using this
    · intro a
      have e2 : lo c (k + 1) us = lo c (k + 1) rs := ih.mpr fun i hi hk => by
        have := a (i + 1) (by simpa using hi) (by omega)
        simpa using this
      unfold lo
      rw [e2]
      split
      · rfl
      · have := a 0 (by simp) (by omega)
        simp at this
        omega
  | _, [], _ :: _, h => h.elim
  | _, _ :: _, [], h => h.elim
theorem hi_zero (c : Nat) : ∀ (k : Nat) (us : List Nat), (hi c k us = 0 ↔ ∀ i, i < us.length → c ≤ k + i → us.getD i 0 = 0)
  | _, [] => by simp [hi]
  | k, u :: us => by
    have ih := hi_zero c (k + 1) us
    constructor
    · intro e i hi' hk
      unfold hi at e
      cases i with
      | zero => rw [if_pos (by omega)] at e; simp; omega
      | succ i =>
        have := ih.mp (by omega) i (by simpa using hi') (by omega)
        simpa using this
    · intro a
      have e2 := ih.mpr fun i hi' hk => by
        have := a (i + 1) (by simpa using hi') (by omega)
        simpa using this
      unfold hi
      rw [e2]
      split
      · have := a 0 (by simp) (by omega)
        simpa using this
      · rfl
/-- the least number of bits of n of the 31 first words -/
def fewT (rs : List Nat) (n : Nat) : Nat := (n - lo 1 0 rs) + (n - lo 3 0 rs) + (n - lo 7 0 rs) + (n - lo 15 0 rs)
theorem lev_ge : ∀ k, k < 31 → ∀ L, 1 ≤ L → L ≤ 4 → (L ≤ lev k ↔ 2 ^ L - 1 ≤ k) := by
  intro k hk L h1 h4
  have : L = 1 ∨ L = 2 ∨ L = 3 ∨ L = 4 := by omega
  rcases this with rfl | rfl | rfl | rfl <;> unfold lev <;> simp only [Nat.reducePow, Nat.reduceSub] <;> split <;> split <;> split <;> split <;> omega
theorem lev_lt : ∀ k, lev k ≤ 4 := fun k => by unfold lev; split <;> split <;> split <;> split <;> omega
theorem few_choice {rs us : List Nat} (hl : rs.length = 31) (h : Bd rs us) {gap longest : Nat}
    (g1 : gap ≤ 5) (g2 : ∀ L, L ≤ 5 → (L ≤ gap ↔ ∀ k, k < 31 → us.getD k 0 < rs.getD k 0 → L ≤ lev k))
    (l1 : longest ≤ 4) (l2 : ∀ L, 1 ≤ L → (longest < L ↔ ∀ k, k < 31 → 0 < us.getD k 0 → lev k < L)) :
    fewT rs us.sum ≤ wS 0 us ∧ (fewT rs us.sum = wS 0 us ↔ longest ≤ gap) := by
  have hul : us.length = 31 := by rw [h.len, hl]
  have one : ∀ L, 1 ≤ L → L ≤ 4 → us.sum - lo (2 ^ L - 1) 0 rs ≤ hi (2 ^ L - 1) 0 us ∧ (us.sum - lo (2 ^ L - 1) 0 rs = hi (2 ^ L - 1) 0 us ↔ (L ≤ gap ∨ longest < L)) := by
    intro L h1 h4
    have e1 := hi_lo (2 ^ L - 1) 0 us
    have e2 := lo_le (2 ^ L - 1) 0 h
    have e3 := lo_eq (2 ^ L - 1) 0 h
    have e4 := hi_zero (2 ^ L - 1) 0 us
    rw [hl] at e3
    rw [hul] at e4
    have a1 : L ≤ gap ↔ lo (2 ^ L - 1) 0 us = lo (2 ^ L - 1) 0 rs := by
      rw [g2 L (by omega), e3]
      constructor
      · intro a i hi hk
        have := h.get i
        by_cases hlt : us.getD i 0 < rs.getD i 0
        · have := (lev_ge i hi L h1 h4).mp (a i hi hlt)
          omega
        · omega
      · intro a i hi hlt
        refine (lev_ge i hi L h1 h4).mpr (Nat.le_of_not_lt fun hk => ?_)
        have := a i hi (by omega)
        omega
    have a2 : longest < L ↔ hi (2 ^ L - 1) 0 us = 0 := by
      rw [l2 L h1, e4]
      constructor
      · intro a i hi hk
        by_cases hz : 0 < us.getD i 0
        · have := a i hi hz
          have := (lev_ge i hi L h1 h4).mpr (by omega)
          omega
        · omega
      · intro a i hi hz
        refine Nat.lt_of_not_le fun hge => ?_
        have := a i hi (by have := (lev_ge i hi L h1 h4).mp hge; omega)
        omega
    rw [a1, a2]
    omega
  rw [wS_hi]
  obtain ⟨b1, c1⟩ := one 1 (by decide) (by decide)
  obtain ⟨b2, c2⟩ := one 2 (by decide) (by decide)
  obtain ⟨b3, c3⟩ := one 3 (by decide) (by decide)
  obtain ⟨b4, c4⟩ := one 4 (by decide) (by decide)
  simp only [Nat.reducePow, Nat.reduceSub] at b1 c1 b2 c2 b3 c3 b4 c4
  unfold fewT
  refine ⟨by omega, ?_⟩
  constructor
  · intro e
    have d1 := c1.mp (by omega)
    have d2 := c2.mp (by omega)
    have d3 := c3.mp (by omega)
    have d4 := c4.mp (by omega)
    omega
  · intro e
    have d1 := c1.mpr (by omega)
    have d2 := c2.mpr (by omega)
    have d3 := c3.mpr (by omega)
    have d4 := c4.mpr (by omega)
    omega
/-- the first strings of the plain list -/
def plainS (f : Nat → Nat) : Nat → Nat
  | 0 => 0
  | n + 1 => plainS f n + f n
theorem plain_53 {s : Nat} (hs : 1 ≤ s) : ∀ n, plainS (fun k => lev (k / s)) n = (n - s) + (n - 3 * s) + (n - 7 * s) + (n - 15 * s)
  | 0 => by simp [plainS]
  | n + 1 => by
    show plainS _ n + lev (n / s) = _
    rw [plain_53 hs n]
    have h : ∀ c, c ≤ n / s ↔ c * s ≤ n := fun c => Nat.le_div_iff_mul_le hs
    have h1 := h 1
    unfold lev
    simp only [h]
    split <;> split <;> split <;> split <;> omega
theorem plain_54 {S : Nat} (hs : 1 ≤ S) : ∀ n, plainS (fun k => lev (1 + k / S)) n = n + (n - 2 * S) + (n - 6 * S) + (n - 14 * S)
  | 0 => by simp [plainS]
  | n + 1 => by
    show plainS _ n + lev (1 + n / S) = _
    rw [plain_54 hs n]
    have h : ∀ c, c ≤ n / S ↔ c * S ≤ n := fun c => Nat.le_div_iff_mul_le hs
    have h2 : 3 ≤ 1 + n / S ↔ 2 * S ≤ n := by rw [← h]; omega
    have h3 : 7 ≤ 1 + n / S ↔ 6 * S ≤ n := by rw [← h]; omega
    have h4 : 15 ≤ 1 + n / S ↔ 14 * S ≤ n := by rw [← h]; omega
    have h1 : 1 ≤ 1 + n / S := Nat.le_add_right 1 _
    unfold lev
    simp only [h2, h3, h4, h1, if_true]
    split <;> split <;> split <;> omega
theorem few_53 {s n : Nat} (hs : 1 ≤ s) (hn : n ≤ 31 * s) : fewT (List.replicate 31 s) n = totE s s n := by
  rw [← tot_is (k := 5) hs (by simp [Cm, Rm]; omega)]
  simp [fewT, List.replicate, lo, Tm, Cm, Rm]
  omega
theorem few_54 {e S n : Nat} (hs : 1 ≤ S) (hn : n ≤ e + 30 * S) : fewT (e :: List.replicate 30 S) n = totE e S n := by
  rw [← tot_is (k := 5) hs (by simp [Cm, Rm]; omega)]
  simp [fewT, List.replicate, lo, Tm, Cm, Rm]
  omega
end My

set_option Elab.async false
set_option linter.all false
set_option maxRecDepth 100000
set_option maxHeartbeats 4000000
namespace My
/-! ### how many texts have 1 to w letters, and how many letters they have together -/
def Sn (s : Nat) : Nat → Nat
  | 0 => 0
  | w + 1 => Sn s w + s ^ (w + 1)
def Bn (s : Nat) : Nat → Nat
  | 0 => 0
  | w + 1 => Bn s w + (w + 1) * s ^ (w + 1)
/-- t is the least total of c texts -/
def Tot (s c t : Nat) : Prop := ∃ w j, c = Sn s w + j ∧ j ≤ s ^ (w + 1) ∧ t = Bn s w + (w + 1) * j
theorem Sn_mono {s : Nat} : ∀ {v w : Nat}, v ≤ w → Sn s v ≤ Sn s w
  | v, 0, h => by
    have : v = 0 := by omega
    rw [this]
    exact Nat.le_refl _
  | v, w + 1, h => by
    by_cases e : v = w + 1
    · rw [e]
      exact Nat.le_refl _
    · exact Nat.le_trans (Sn_mono (v := v) (w := w) (by omega)) (Nat.le_add_right _ _)
theorem Bn_mono {s : Nat} : ∀ {v w : Nat}, v ≤ w → Bn s v ≤ Bn s w
  | v, 0, h => by
    have : v = 0 := by omega
    rw [this]
    exact Nat.le_refl _
  | v, w + 1, h => by
    by_cases e : v = w + 1
    · rw [e]
      exact Nat.le_refl _
    · exact Nat.le_trans (Bn_mono (v := v) (w := w) (by omega)) (Nat.le_add_right _ _)
theorem pow_pos' {s : Nat} (h : 1 ≤ s) (w : Nat) : 1 ≤ s ^ w := Nat.one_le_pow _ _ h
/-- fewer texts have fewer letters -/
theorem tot_le {s c d t u : Nat} (hs : 1 ≤ s) (h1 : Tot s c t) (h2 : Tot s d u) (h : c ≤ d) : t ≤ u := by
  obtain ⟨w, j, e1, hj, rfl⟩ := h1
  obtain ⟨v, i, e2, hi, rfl⟩ := h2
  by_cases hw : w < v
  · have a := Bn_mono (s := s) (show w + 1 ≤ v by omega)
    have b : (w + 1) * j ≤ (w + 1) * s ^ (w + 1) := Nat.mul_le_mul_left _ hj
    have c : Bn s (w + 1) = Bn s w + (w + 1) * s ^ (w + 1) := rfl
    omega
  · by_cases hv : v < w
    · have a := Sn_mono (s := s) (show v + 1 ≤ w by omega)
      have b : Sn s (v + 1) = Sn s v + s ^ (v + 1) := rfl
      have hi2 : i = s ^ (v + 1) := by omega
      have hj0 : j = 0 := by omega
      have hS : Sn s w = Sn s (v + 1) := by omega
      have hvw : w = v + 1 := by
        by_cases z : v + 2 ≤ w
        · have c1 := Sn_mono (s := s) z
          have c2 : Sn s (v + 2) = Sn s (v + 1) + s ^ (v + 2) := rfl
          have c3 := pow_pos' hs (v + 2)
          omega
        · omega
      subst hvw hi2 hj0
      exact Nat.le_of_eq rfl
    · have : w = v := by omega
      subst this
      have hji : j ≤ i := by omega
      exact Nat.add_le_add_left (Nat.mul_le_mul_left _ hji) _
theorem tot_uniq {s c t u : Nat} (hs : 1 ≤ s) (h1 : Tot s c t) (h2 : Tot s c u) : t = u :=
  Nat.le_antisymm (tot_le hs h1 h2 (Nat.le_refl _)) (tot_le hs h2 h1 (Nat.le_refl _))
theorem tot_succ {s w j : Nat} (hs : 1 ≤ s) (hj : j ≤ s ^ (w + 1)) : ∃ k, Tot s (Sn s w + j + 1) (Bn s w + (w + 1) * j + k) ∧ w + 1 ≤ k := by
  by_cases e : j = s ^ (w + 1)
  · refine ⟨w + 2, ⟨w + 1, 1, ?_, pow_pos' hs _, ?_⟩, by omega⟩
    · show _ = Sn s w + s ^ (w + 1) + 1
      omega
    · show _ = Bn s w + (w + 1) * s ^ (w + 1) + (w + 1 + 1) * 1
      rw [e]
      omega
  · refine ⟨w + 1, ⟨w, j + 1, by omega, by omega, ?_⟩, Nat.le_refl _⟩
    rw [Nat.mul_add]
    omega
/-- one text more has more letters -/
theorem tot_lt {s c d t u : Nat} (hs : 1 ≤ s) (h1 : Tot s c t) (h2 : Tot s d u) (h : c < d) : t < u := by
  obtain ⟨w, j, e1, hj, e3⟩ := h1
  obtain ⟨k, h3, hk⟩ := tot_succ hs hj
  have := tot_le hs h3 h2 (by omega)
  omega
/-- each depth bounds the total from below -/
theorem tot_depth {s c t : Nat} (hs : 1 ≤ s) (h : Tot s c t) : ∀ d, (d + 1) * c ≤ t + (d + 1) * Sn s d := by
  obtain ⟨w, j, rfl, hj, rfl⟩ := h
  have key : ∀ w, ∀ d, (d + 1) * Sn s w ≤ Bn s w + (d + 1) * Sn s d := by
    intro w
    induction w with
    | zero => intro d; simp [Sn]
    | succ w ih =>
      intro d
      by_cases hd : w + 1 ≤ d
      · have := Sn_mono (s := s) hd
        have := Nat.mul_le_mul_left (d + 1) this
        omega
      · have a := ih d
        have b : (d + 1) * s ^ (w + 1) ≤ (w + 1) * s ^ (w + 1) := Nat.mul_le_mul_right _ (by omega)
        show (d + 1) * (Sn s w + s ^ (w + 1)) ≤ Bn s w + (w + 1) * s ^ (w + 1) + _
        rw [Nat.mul_add]
        omega
  intro d
  by_cases hd : w < d
  · have a : Sn s w + j ≤ Sn s d := by
      have := Sn_mono (s := s) (show w + 1 ≤ d by omega)
      have c : Sn s (w + 1) = Sn s w + s ^ (w + 1) := rfl
      omega
    have := Nat.mul_le_mul_left (d + 1) a
    omega
  · have a := key w d
    have b : (d + 1) * j ≤ (w + 1) * j := Nat.mul_le_mul_right _ (by omega)
    rw [Nat.mul_add]
    omega
/-! ### one letter -/
theorem Sn_one : ∀ w, Sn 1 w = w
  | 0 => rfl
  | w + 1 => by show Sn 1 w + 1 ^ (w + 1) = w + 1; rw [Sn_one w, Nat.one_pow]
theorem Bn_one : ∀ w, 2 * Bn 1 w = w * (w + 1)
  | 0 => rfl
  | w + 1 => by
    show 2 * (Bn 1 w + (w + 1) * 1 ^ (w + 1)) = (w + 1) * (w + 1 + 1)
    rw [Nat.one_pow, Nat.mul_add, Bn_one w, Nat.mul_one, ← Nat.add_mul, Nat.mul_comm]
theorem tot_one (c : Nat) : Tot 1 c (c * (c + 1) / 2) := by
  refine ⟨c, 0, by rw [Sn_one]; rfl, Nat.zero_le _, ?_⟩
  have := Bn_one c
  omega
/-- fewer letters, no more texts: with one letter they are the longest -/
theorem tot_base {s c t u : Nat} (hs : 1 ≤ s) (h : Tot s c t) (h1 : Tot 1 c u) : t ≤ u := by
  obtain ⟨w, j, rfl, hj, rfl⟩ := h
  have key : ∀ w, w ≤ Sn s w := by
    intro w
    induction w with
    | zero => exact Nat.le_refl _
    | succ w ih =>
      have := pow_pos' hs (w + 1)
      show w + 1 ≤ Sn s w + s ^ (w + 1)
      omega
  -- by counting: the total is at most that of one letter, text by text
  have tri : ∀ n m, n * (n + 1) + 2 * ((n + 1) * m) ≤ (n + m) * (n + m + 1) := by
    intro n m
    have e : (n + m) * (n + m + 1) = n * (n + 1) + 2 * ((n + 1) * m) + m * (m - 1) := by
      cases m with
      | zero => simp
      | succ m =>
        have : (n + (m + 1)) * (n + (m + 1) + 1) = n * (n + 1) + 2 * ((n + 1) * (m + 1)) + (m + 1) * m := by
          simp only [Nat.mul_add, Nat.add_mul, Nat.mul_one, Nat.one_mul]
          have : m * n = n * m := Nat.mul_comm _ _
          omega
        exact this
    omega
  have hB : ∀ w, 2 * Bn s w ≤ Sn s w * (Sn s w + 1) := by
    intro w
    induction w with
    | zero => exact Nat.le_refl _
    | succ w ih =>
      have a := tri (Sn s w) (s ^ (w + 1))
      have b : (w + 1) * s ^ (w + 1) ≤ (Sn s w + 1) * s ^ (w + 1) := Nat.mul_le_mul_right _ (by have := key w; omega)
      show 2 * (Bn s w + (w + 1) * s ^ (w + 1)) ≤ (Sn s w + s ^ (w + 1)) * (Sn s w + s ^ (w + 1) + 1)
      omega
  have hu := tot_uniq (by decide) h1 (tot_one _)
  have a := tri (Sn s w) j
  have b : (w + 1) * j ≤ (Sn s w + 1) * j := Nat.mul_le_mul_right _ (by have := key w; omega)
  have c := hB w
  omega
end My

set_option Elab.async false
set_option linter.all false
set_option maxRecDepth 100000
set_option maxHeartbeats 4000000
namespace My
theorem tot_ex {s : Nat} (hs : 1 ≤ s) : ∀ c, ∃ t, Tot s c t
  | 0 => ⟨0, 0, 0, rfl, Nat.zero_le _, rfl⟩
  | c + 1 => by
    obtain ⟨t, w, j, e, hj, _⟩ := tot_ex hs c
    obtain ⟨k, h, _⟩ := tot_succ hs hj
    exact ⟨_, by rw [e]; exact h⟩
open Classical in
noncomputable def totF (s c : Nat) : Nat := if h : ∃ t, Tot s c t then h.choose else 0
theorem totF_spec {s c : Nat} (hs : 1 ≤ s) : Tot s c (totF s c) := by
  unfold totF
  rw [dif_pos (tot_ex hs c)]
  exact (tot_ex hs c).choose_spec
theorem totF_is {s c t : Nat} (hs : 1 ≤ s) (h : Tot s c t) : totF s c = t := tot_uniq hs (totF_spec hs) h
theorem totF_lt {s c d : Nat} (hs : 1 ≤ s) (h : c < d) : totF s c < totF s d := tot_lt hs (totF_spec hs) (totF_spec hs) h
theorem totF_le {s c d : Nat} (hs : 1 ≤ s) (h : c ≤ d) : totF s c ≤ totF s d := tot_le hs (totF_spec hs) (totF_spec hs) h
theorem totF_ge {s c : Nat} (hs : 1 ≤ s) : c ≤ totF s c := by
  have := tot_depth hs (totF_spec (c := c) hs) 0
  simp [Sn] at this
  exact this
/-- the greatest count of so many letters -/
def Gr (s far c : Nat) : Prop := totF s c ≤ far ∧ far < totF s (c + 1)
theorem gr_uniq {s far c d : Nat} (hs : 1 ≤ s) (h1 : Gr s far c) (h2 : Gr s far d) : c = d := by
  by_cases a : c < d
  · have := totF_le hs (show c + 1 ≤ d by omega)
    have := h1.2
    have := h2.1
    omega
  · by_cases b : d < c
    · have := totF_le hs (show d + 1 ≤ c by omega)
      have := h1.1
      have := h2.2
      omega
    · omega
theorem gr_loop {s w rest far : Nat} (hs : 1 ≤ s) (h : far = Bn s w + rest) (hr : rest ≤ s ^ (w + 1) * (w + 1)) : Gr s far (Sn s w + rest / (w + 1)) := by
  have hj : rest / (w + 1) ≤ s ^ (w + 1) := by
    apply Nat.div_le_of_le_mul
    rw [Nat.mul_comm]
    exact hr
  have h1 : Tot s (Sn s w + rest / (w + 1)) (Bn s w + (w + 1) * (rest / (w + 1))) := ⟨w, _, rfl, hj, rfl⟩
  obtain ⟨k, h2, hk⟩ := tot_succ hs hj
  have a := Nat.div_mul_le_self rest (w + 1)
  have b := Nat.lt_div_mul_add (a := rest) (b := w + 1) (by omega)
  rw [Nat.mul_comm] at a b
  refine ⟨?_, ?_⟩
  · rw [totF_is hs h1]
    omega
  · rw [totF_is hs h2]
    omega
theorem sq_step (a b : Nat) (h : a ≤ b) : a * a ≤ b * b := Nat.mul_le_mul h h
theorem gr_one {L r : Nat} (h1 : r * r ≤ 8 * L + 1) (h2 : 8 * L + 1 < (r + 1) * (r + 1)) : Gr 1 L ((r - 1) / 2) := by
  have hr : 1 ≤ r := by
    by_cases z : r = 0
    · subst z; simp at h2
    · omega
  obtain ⟨n, hn⟩ : ∃ n, n = (r - 1) / 2 := ⟨_, rfl⟩
  rw [← hn]
  have a : 2 * n + 1 ≤ r := by omega
  have b : r + 1 ≤ 2 * n + 3 := by omega
  have a2 := sq_step _ _ a
  have b2 := sq_step _ _ b
  have e1 : (2 * n + 1) * (2 * n + 1) = 4 * (n * (n + 1)) + 1 := by
    simp only [Nat.mul_add, Nat.add_mul, Nat.mul_one, Nat.one_mul]
    have : 2 * n * (2 * n) = 4 * (n * n) := by rw [Nat.mul_mul_mul_comm]
    omega
  have e2 : (2 * n + 3) * (2 * n + 3) = 4 * ((n + 1) * (n + 1 + 1)) + 1 := by
    simp only [Nat.mul_add, Nat.add_mul, Nat.mul_one, Nat.one_mul]
    have : 2 * n * (2 * n) = 4 * (n * n) := by rw [Nat.mul_mul_mul_comm]
    omega
  refine ⟨?_, ?_⟩
  · rw [totF_is (by decide) (tot_one n)]
    omega
  · rw [totF_is (by decide) (tot_one (n + 1))]
    have ev : ∃ k, (n + 1) * (n + 1 + 1) = 2 * k := by
      have := Nat.mod_two_eq_zero_or_one n
      rcases this with z | z
      · exact ⟨(n / 2 + 1) * (n + 1), by
          have e : n + 1 + 1 = 2 * (n / 2 + 1) := by omega
          rw [e, Nat.mul_comm (n + 1), Nat.mul_assoc]⟩
      · exact ⟨(n + 1) / 2 * (n + 1 + 1), by
          have e : n + 1 = 2 * ((n + 1) / 2) := by omega
          rw [← Nat.mul_assoc, ← e]⟩
    obtain ⟨k, hk⟩ := ev
    rw [hk] at e2 ⊢
    omega
/-- the least count of so many letters -/
def Le (L n : Nat) : Prop := 2 * L ≤ n * (n + 3) ∧ (n = 0 ∨ (n - 1) * (n + 2) < 2 * L)
theorem le_of {L r : Nat} (h1 : r * r ≤ 8 * L + 9) (h2 : 8 * L + 9 < (r + 1) * (r + 1)) : Le L (if (r - 3) / 2 * ((r - 3) / 2 + 3) < 2 * L then (r - 3) / 2 + 1 else (r - 3) / 2) := by
  have hr : 3 ≤ r := by
    by_cases z : r ≤ 2
    · have := sq_step (r + 1) 3 (by omega)
      omega
    · omega
  obtain ⟨n, hn⟩ : ∃ n, n = (r - 3) / 2 := ⟨_, rfl⟩
  rw [← hn]
  have a2 := sq_step _ _ (show 2 * n + 3 ≤ r by omega)
  have b2 := sq_step _ _ (show r + 1 ≤ 2 * n + 5 by omega)
  have sq : 2 * n * (2 * n) = 4 * (n * n) := by rw [Nat.mul_mul_mul_comm]
  have e1 : (2 * n + 3) * (2 * n + 3) = 4 * (n * (n + 3)) + 9 := by
    simp only [Nat.mul_add, Nat.add_mul, Nat.mul_one, Nat.one_mul]
    omega
  have e2 : (2 * n + 5) * (2 * n + 5) = 4 * ((n + 1) * (n + 1 + 3)) + 9 := by
    simp only [Nat.mul_add, Nat.add_mul, Nat.mul_one, Nat.one_mul]
    omega
  split
  · rename_i hlt
    refine ⟨by omega, Or.inr ?_⟩
    show (n + 1 - 1) * (n + 1 + 2) < 2 * L
    rw [Nat.add_sub_cancel]
    exact hlt
  · rename_i hge
    refine ⟨by omega, ?_⟩
    cases n with
    | zero => exact Or.inl rfl
    | succ n =>
      refine Or.inr ?_
      have e3 : (n + 1) * (n + 1 + 3) = (n + 1 - 1) * (n + 1 + 2) + (2 * n + 4) := by
        rw [Nat.add_sub_cancel]
        simp only [Nat.mul_add, Nat.add_mul, Nat.mul_one, Nat.one_mul]
        omega
      omega
theorem le_mono {n m : Nat} (h : n ≤ m) : n * (n + 3) ≤ m * (m + 3) := Nat.mul_le_mul h (by omega)
theorem le_uniq {L n m : Nat} (h1 : Le L n) (h2 : Le L m) : n = m := by
  have key : ∀ {n m : Nat}, Le L n → Le L m → ¬ n < m := by
    intro n m h1 h2 c
    rcases h2.2 with z | z
    · omega
    · have := le_mono (show n ≤ m - 1 by omega)
      have e : m - 1 + 3 = m + 2 := by omega
      rw [e] at this
      have := h1.1
      omega
  have := key h1 h2
  have := key h2 h1
  omega
theorem le_far {L n : Nat} (h : Le L n) : n ≤ L := by
  rcases h.2 with z | z
  · omega
  · obtain ⟨m, rfl⟩ : ∃ m, n = m + 1 := ⟨n - 1, by
      by_cases z : n = 0
      · subst z; have := h.1; omega
      · omega⟩
    rw [Nat.add_sub_cancel] at z
    by_cases c : m = 0
    · subst c; omega
    · have : m * 4 ≤ m * (m + 1 + 2) := Nat.mul_le_mul_left _ (by omega)
      omega
theorem gr_le {L n : Nat} (h : Gr 1 L n) : Le L n := by
  obtain ⟨h1, h2⟩ := h
  rw [totF_is (by decide) (tot_one n)] at h1
  rw [totF_is (by decide) (tot_one (n + 1))] at h2
  have e1 : n * (n + 3) = n * (n + 1) + 2 * n := by rw [show n + 3 = n + 1 + 2 by omega, Nat.mul_add]; omega
  have e2 : (n + 1) * (n + 1 + 1) = n * (n + 1) + 2 * n + 2 := by
    simp only [Nat.mul_add, Nat.add_mul, Nat.mul_one, Nat.one_mul]
    omega
  have ev : ∃ k, n * (n + 1) = 2 * k := by
    rcases Nat.mod_two_eq_zero_or_one n with z | z
    · exact ⟨n / 2 * (n + 1), by
        have e : n = 2 * (n / 2) := by omega
        rw [← Nat.mul_assoc, ← e]⟩
    · exact ⟨n * ((n + 1) / 2), by
        have e : n + 1 = 2 * ((n + 1) / 2) := by omega
        conv => lhs; rw [e]
        rw [← Nat.mul_assoc, Nat.mul_comm n 2, Nat.mul_assoc]⟩
  obtain ⟨k, hk⟩ := ev
  refine ⟨by omega, ?_⟩
  cases n with
  | zero => exact Or.inl rfl
  | succ n =>
    refine Or.inr ?_
    have e3 : (n + 1) * (n + 1 + 1) = (n + 1 - 1) * (n + 1 + 2) + 2 := by
      rw [Nat.add_sub_cancel]
      simp only [Nat.mul_add, Nat.add_mul, Nat.mul_one, Nat.one_mul]
      omega
    omega
theorem gr_base {s L n m : Nat} (hs : 1 ≤ s) (h1 : Gr 1 L n) (h2 : Gr s L m) : n ≤ m := by
  by_cases c : m < n
  · have a := totF_le hs (show m + 1 ≤ n by omega)
    have b := tot_base hs (totF_spec (c := n) hs) (totF_spec (s := 1) (by decide))
    have := h1.1
    have := h2.2
    omega
  · omega
theorem gr_depth {s L m : Nat} (hs : 1 ≤ s) (h : Gr s L m) (d : Nat) : m ≤ L / (d + 1) + Sn s d := by
  have a := tot_depth hs (totF_spec (c := m) hs) d
  have b := h.1
  have c : (d + 1) * (m - Sn s d) ≤ L := by
    rw [Nat.mul_sub]
    omega
  have := (Nat.le_div_iff_mul_le (show 0 < d + 1 by omega)).mpr (by rw [Nat.mul_comm]; exact c)
  omega
theorem gr_ex {s : Nat} (hs : 1 ≤ s) (L : Nat) : ∃ c, Gr s L c := by
  have key : ∀ n, L < totF s n → ∃ c, Gr s L c := by
    intro n
    induction n with
    | zero =>
      intro h
      have e : totF s 0 = 0 := totF_is hs ⟨0, 0, rfl, Nat.zero_le _, rfl⟩
      omega
    | succ n ih =>
      intro h
      by_cases c : L < totF s n
      · exact ih c
      · exact ⟨n, by omega, h⟩
  exact key (L + 1) (totF_ge hs)
open Classical in
noncomputable def grF (s L : Nat) : Nat := if h : ∃ c, Gr s L c then h.choose else 0
theorem grF_spec {s L : Nat} (hs : 1 ≤ s) : Gr s L (grF s L) := by
  unfold grF
  rw [dif_pos (gr_ex hs L)]
  exact (gr_ex hs L).choose_spec
theorem grF_is {s L c : Nat} (hs : 1 ≤ s) (h : Gr s L c) : grF s L = c := gr_uniq hs (grF_spec hs) h
theorem grF_le {s L : Nat} (hs : 1 ≤ s) : grF s L ≤ L := Nat.le_trans (totF_ge hs) (grF_spec hs).1
/-- the count of the letters of c texts -/
theorem grF_tot {s c : Nat} (hs : 1 ≤ s) : grF s (totF s c) = c := grF_is hs ⟨Nat.le_refl _, totF_lt hs (Nat.lt_succ_self c)⟩
theorem grF_tot1 {s c : Nat} (hs : 1 ≤ s) (h : 1 ≤ totF s c) : grF s (totF s c - 1) + 1 = c := by
  have hc : 1 ≤ c := by
    by_cases z : c = 0
    · subst z
      have e : totF s 0 = 0 := totF_is hs ⟨0, 0, rfl, Nat.zero_le _, rfl⟩
      omega
    · omega
  obtain ⟨d, rfl⟩ : ∃ d, c = d + 1 := ⟨c - 1, by omega⟩
  have : grF s (totF s (d + 1) - 1) = d := grF_is hs ⟨by have := totF_lt hs (Nat.lt_add_one d); omega, by omega⟩
  omega
theorem totF_cap {s c : Nat} (hs : 1 ≤ s) : totF s c ≤ c * (c + 1) / 2 := tot_base hs (totF_spec hs) (tot_one c)
def cap : Nat := 10 ^ 30 + 1
theorem totF_big {s c : Nat} (hs : 1 ≤ s) (h : c ≤ cap) : totF s c < 2 ^ 250 := by
  have a := totF_cap (c := c) hs
  have b : c * (c + 1) ≤ cap * (cap + 1) := Nat.mul_le_mul h (by omega)
  have d : cap * (cap + 1) < 2 ^ 250 := by decide +kernel
  omega
theorem level_small {s w : Nat} (hs : 2 ≤ s) (h : s ^ w ≤ 6 * cap) : w ≤ 110 := by
  by_cases c : 111 ≤ w
  · have a : 2 ^ 111 ≤ 2 ^ w := Nat.pow_le_pow_right (by decide) c
    have b : 2 ^ w ≤ s ^ w := Nat.pow_le_pow_left hs w
    have d : 6 * cap < 2 ^ 111 := by decide +kernel
    omega
  · omega
theorem cap_lt : cap < 2 ^ 101 := by decide +kernel
end My

set_option Elab.async false
set_option linter.all false
set_option maxRecDepth 100000
set_option maxHeartbeats 4000000
namespace My
open PySem PySem.Spec PyProof.Rows L2 Evl
def top (i : Nat) : Stmt := PySem.Challenge.pw_unpressed_k54_floor_bits.main.body.getD i (.Pass ⟨0, 0, 0, 0⟩)
section
variable {P : Program} {w : World} {K : PySem.W.Frag} {mg : Str → Option Value} {base : Heap}
/-! ### _law_whole -/
abbrev s_law_whole : Stmt := top 6
abbrev N_law_whole : List Str := ["value"]
theorem sc_law_whole : FnScope N_law_whole ["value"] (defScope s_law_whole) := ⟨rfl, rfl, rfl, by decide +kernel, rfl, by decide +kernel, by decide +kernel⟩
theorem ok_law_whole (T : TT mg) (F : At K mg "_law_whole" s_law_whole) : Dn P w K mg base 1 "_law_whole" s_law_whole ["value"] spWhole := by
  refine dn_ok F sc_law_whole (fun _ _ _ _ _ _ us hl => match us, hl with | [_], _ => rfl) (fun vs H Q E h => ?_) (fun f cdv A outer s H vs Q E hr h => ?_)
  · obtain ⟨m, rfl, _⟩ := h; rfl
  · obtain ⟨m, rfl, q⟩ := h
    refine ⟨_, (pss_one (ps_ret (pe_and (pe_callB call_isi (by rfl) T.isinstance (by decide +kernel) (pa_cons (pv 0) (pa_cons (pe_tyn "int" rfl T.int_ (by decide +kernel)) pa_nil))) (pe_one (pe_not (pe_callB call_isi (by rfl) T.isinstance (by decide +kernel) (pa_cons (pv 0) (pa_cons (pe_tyn "bool" rfl T.bool_ (by decide +kernel)) pa_nil)))))))), ?_⟩
    exact s_ret (v := .bl (true && !false)) (ev_andV (ev_isi (ev_var rfl) ev_c (ClsV.ty "int") (fun _ _ => .base (.int m)) kit_int_int) fun _ => ev_notV (ev_isi (ev_var rfl) ev_c (ClsV.ty "bool") (fun _ _ => .base (.int m)) kit_int_bool)) fun H1 e => q H1 e
/-! ### _law_cell -/
abbrev s_law_cell : Stmt := top 7
abbrev N_law_cell : List Str := ["script", "k", "seed", "cell"]
theorem sc_law_cell : FnScope N_law_cell ["script", "k"] (defScope s_law_cell) := ⟨rfl, rfl, rfl, by decide +kernel, rfl, by decide +kernel, by decide +kernel⟩
theorem ok_law_cell (T : TT mg) (F : At K mg "_law_cell" s_law_cell) : Dn P w K mg base 1 "_law_cell" s_law_cell ["script", "k"] (spCellF K) := by
  refine dn_ok F sc_law_cell (fun _ _ _ _ _ _ us hl => match us, hl with | [_, _], _ => rfl) (fun vs H Q E h => ?_) (fun f cdv A outer s H vs Q E hr h => ?_)
  · obtain ⟨a, ns, k, rfl, _⟩ := h; rfl
  · obtain ⟨a, ns, k, rfl, hS, hk, hk2, q⟩ := h
    refine ⟨_, (pss_cons (ps_if (pt_cmpR op_lt (pv 1) (pe_callB call_len_seq (by rfl) T.len boot_len (pa_cons (pv 0) pa_nil)) (nomark _)) (pss_one (ps_ret (pe_ix ix_list (pv 0) (pv 1) (fun _ _ => rfl)))) pss_nil)
      (pss_cons (ps_set (i := 2) sc_law_cell.nd rfl (Or.inl rfl) pe_int)
      (pss_cons (ps_for PassesOwn.never rfl (pi_list (pv 0)) (pg_name (i := 3) sc_law_cell.nd rfl (Or.inl rfl))
        (pss_one (ps_set (i := 2) sc_law_cell.nd rfl (Or.inl rfl) (pe_op op_mod (pe_callTy call_int1 (by rfl) T.int_ (by decide +kernel) (pa_cons (pe_op op_add (pe_op op_mul (pv 2) pe_int) (pe_op op_mod (pe_callTy call_int1 (by rfl) T.int_ (by decide +kernel) (pa_cons (pv 3) pa_nil)) pe_int)) pa_nil)) pe_int))))
      (pss_one (ps_ret (pe_op op_mod (pe_callTy call_int1 (by rfl) T.int_ (by decide +kernel) (pa_cons (pe_op op_mul (pe_op op_mul (pe_op op_add (pv 2) pe_int) (pe_op op_add (pv 1) pe_int)) pe_int) pa_nil)) pe_int)))))), ?_⟩
    refine q_when (et_test (ev_op (ev_var rfl) (ev_len (ev_var rfl) hS) rv_I0)) (fun hb H1 e1 => ?_) (fun hb H1 e1 => ?_)
    · have hlt : k < (ns.length : Int) := by
        have := of_decide_eq_true hb
        rw [List.length_map] at this
        exact this
      have hv : cellF ns k = ns.getD k.toNat 0 := if_pos hlt
      rw [hv] at q
      have hg : ns[k.toNat]? = some (ns.getD k.toNat 0) := by
        rw [List.getD_eq_getElem?_getD, List.getElem?_eq_getElem (by omega)]; rfl
      exact s_ret (ev_op (ev_var rfl) (ev_var rfl) (rv_ixL (ex_l e1 hS) (at_map hk hg))) fun H2 e2 => q H2 (e1.trans e2)
    · have hge : ¬ k < (ns.length : Int) := by
        have := of_decide_eq_false hb
        rw [List.length_map] at this
        exact this
      have hv : cellF ns k = ((seedF ns + 7) * (k + 3) * 69621) % 2147483647 := if_neg hge
      rw [hv] at q
      refine q_asg ev_c fun H2 e2 => ?_
      refine q_forLn (ev_var rfl) (ex_l (e1.trans e2) hS) (fun i σ' H' => ∃ (sd : Int) (v : Option V), σ' = [some (.ref a), some (.int k), some (.int sd), v] ∧ Ex H H' ∧ 0 ≤ sd ∧ sd < 1000003 ∧ (ns.drop i).foldl (fun s c => (s * 31 + c % 1000003) % 1000003) sd = seedF ns)
        (fun H3 e3 => ⟨17, none, rfl, (e1.trans e2).trans e3, by decide, by decide, rfl⟩) (fun i σ' H' _ ⟨_, _, _, e, _⟩ => ex_l e hS) ?_ ?_
      · rintro i x σ' H' hx ⟨sd, v, rfl, e, h0, h1, hf⟩
        obtain ⟨z, hz, rfl⟩ := get_map hx
        rw [drop_get hz, List.foldl_cons] at hf
        refine s_asg (ev_op (ev_int (ev_op (ev_op (ev_var rfl) ev_c (rv_I (by unfold CMul; omega))) (ev_op (ev_int (ev_var rfl)) ev_c (rv_I (by decide))) rv_I0)) ev_c (rv_I (by decide))) fun H4 e4 => ?_
        exact ⟨_, _, rfl, e.trans e4, Int.emod_nonneg _ (by decide), Int.emod_lt_of_pos _ (by decide), hf⟩
      · rintro σ' H' ⟨sd, v, rfl, e, h0, h1, hf⟩
        rw [List.length_map, List.drop_length] at hf
        have hsd : sd = seedF ns := hf
        subst hsd
        exact s_ret (ev_op (ev_int (ev_op (ev_op (ev_op (ev_var rfl) ev_c rv_I0) (ev_op (ev_var rfl) ev_c rv_I0) (rv_I (by unfold CMul; omega))) ev_c (rv_I (by unfold CMul; omega)))) ev_c (rv_I (by decide))) fun H4 e4 => q H4 (e.trans e4)
/-! ### _law_digits -/
abbrev s_law_digits : Stmt := top 8
abbrev N_law_digits : List Str := ["cell", "sizes", "row", "rest", "seed", "k", "size", "twice"]
theorem sc_law_digits : FnScope N_law_digits ["cell", "sizes"] (defScope s_law_digits) := ⟨rfl, rfl, rfl, by decide +kernel, rfl, by decide +kernel, by decide +kernel⟩
theorem ok_law_digits (T : TT mg) (F : At K mg "_law_digits" s_law_digits) : Dn P w K mg base 1 "_law_digits" s_law_digits ["cell", "sizes"] (spDigits K) := by
  refine dn_ok F sc_law_digits (fun _ _ _ _ _ _ us hl => match us, hl with | [_, _], _ => rfl) (fun vs H Q E h => ?_) (fun f cdv A outer s H vs Q E hr h => ?_)
  · obtain ⟨c, b, ss, rfl, _⟩ := h; rfl
  · obtain ⟨c, b, ss, rfl, hS, ⟨hlen, hss⟩, q⟩ := h
    refine ⟨_, (pss_cons (ps_set (i := 2) sc_law_digits.nd rfl (Or.inl rfl) (pe_lst pa_nil))
      (pss_cons (ps_set (i := 3) sc_law_digits.nd rfl (Or.inl rfl) (pe_callTy call_int1 (by rfl) T.int_ (by decide +kernel) (pa_cons (pv 0) pa_nil)))
      (pss_cons (ps_if (pt_cmpR op_ge (pv 3) (pe_op op_pow pe_int pe_int) (nomark _)) (pss_cons (ps_set (i := 3) sc_law_digits.nd rfl (Or.inl rfl) (pe_op op_sub (pv 3) (pe_op op_pow pe_int pe_int)))
        (pss_cons (ps_for PassesOwn.never rfl (pi_list (pv 1)) (pg_name (i := 6) sc_law_digits.nd rfl (Or.inl rfl))
          (pss_cons (ps_expr (pe_bm PySem.F.plainAttrs_list PySem.F.slot_list_append PySem.F.type_list_append mt_append (pv 2) (pa_cons (pe_op op_mod (pe_callTy call_int1 (by rfl) T.int_ (by decide +kernel) (pa_cons (pv 3) pa_nil)) (pv 6)) pa_nil)))
            (pss_one (ps_set (i := 3) sc_law_digits.nd rfl (Or.inl rfl) (pe_op op_fdivW (pe_callTy call_int1 (by rfl) T.int_ (by decide +kernel) (pa_cons (pv 3) pa_nil)) (pv 6))))))
        (pss_one (ps_ret (pv 2))))) pss_nil)
      (pss_cons (ps_set (i := 4) sc_law_digits.nd rfl (Or.inl rfl) (pe_op op_mod (pe_callTy call_int1 (by rfl) T.int_ (by decide +kernel) (pa_cons (pv 3) pa_nil)) pe_int))
      (pss_cons (ps_for PassesOwn.never rfl (pi_range1 (by rfl) T.range (pa_cons (pe_callB call_len_seq (by rfl) T.len boot_len (pa_cons (pv 1) pa_nil)) pa_nil)) (pg_name (i := 5) sc_law_digits.nd rfl (Or.inl rfl))
        (pss_cons (ps_set (i := 4) sc_law_digits.nd rfl (Or.inl rfl) (pe_op op_mod (pe_callTy call_int1 (by rfl) T.int_ (by decide +kernel) (pa_cons (pe_op op_add (pe_op op_add (pe_op op_mul (pv 4) pe_int) (pe_op op_mul pe_int (pv 5))) pe_int) pa_nil)) pe_int))
          (pss_cons (ps_set (i := 7) sc_law_digits.nd rfl (Or.inl rfl) (pe_op op_mod (pe_callTy call_int1 (by rfl) T.int_ (by decide +kernel) (pa_cons (pe_op op_mul (pv 4) (pe_op op_add (pe_op op_fdiv (pv 4) pe_int) pe_int)) pa_nil)) pe_int))
          (pss_one (ps_expr (pe_bm PySem.F.plainAttrs_list PySem.F.slot_list_append PySem.F.type_list_append mt_append (pv 2) (pa_cons (pe_op op_mod (pe_op op_fdiv (pv 7) pe_int) (pe_ix ix_list (pv 1) (pv 5) (fun _ _ => rfl))) pa_nil)))))))
      (pss_one (ps_ret (pv 2)))))))), ?_⟩
    have e18 : (10 : Int) ^ (Int.toNat 18) = 1000000000000000000 := by decide
    have c18 : CPow 10 18 := by unfold CPow; decide
    refine q_asgL (el_lst ea_nil (by decide)) fun l H1 nl e1 h1 => ?_
    refine q_asg (ev_int (ev_var rfl)) fun H2 e2 => ?_
    refine q_when (et_test (ev_op (ev_var rfl) (ev_op ev_c ev_c (rv_I c18)) rv_I0)) (fun hb H3 e3 => ?_) (fun hb H3 e3 => ?_)
    · have hge : 1000000000000000000 ≤ c := by
        have := of_decide_eq_true hb
        rw [e18] at this
        exact this
      have hv : digitsF c ss = digA (c - 1000000000000000000) ss := if_pos hge
      rw [hv] at q
      refine q_asg (ev_op (ev_var rfl) (ev_op ev_c ev_c (rv_I c18)) rv_I0) fun H4 e4 => ?_
      have e14 : Ex H H4 := ((e1.trans e2).trans e3).trans e4
      refine q_forLn (ev_var rfl) (ex_l e14 hS) (fun i σ' H' => ∃ (r : Int) (done : List Int) (v : Option V), σ' = [some (.int c), some (.ref b), some (.ref l), some (.int r), none, none, v, none] ∧ Ex H H' ∧ H' l = some (.lst (done.map V.int)) ∧ done.length = i ∧ done ++ digA r (ss.drop i) = digA (c - 1000000000000000000) ss)
        (fun H5 e5 => ⟨_, [], none, rfl, e14.trans e5, e5 l _ (e4 l _ (e3 l _ (e2 l _ h1))), rfl, by rw [e18]; rfl⟩) (fun i σ' H' _ ⟨_, _, _, _, e, _⟩ => ex_l e hS) ?_ ?_
      · rintro i x σ' H' hx ⟨r, done, v, rfl, e, hl, hd, hf⟩
        obtain ⟨z, hz, rfl⟩ := get_map hx
        have hi := (List.getElem?_eq_some_iff.mp hz).1
        obtain ⟨z0, z1⟩ := hss z (List.mem_of_getElem? hz)
        rw [drop_get hz] at hf
        refine q_app hl (ev_var rfl) (ev_op (ev_int (ev_var rfl)) (ev_var rfl) (rv_I z0)) (by rw [List.length_map]; omega) fun H5 e5 => ?_
        refine s_asg (ev_op (ev_int (ev_var rfl)) (ev_var rfl) (rv_I (divw z0 z1))) fun H6 e6 => ?_
        refine ⟨r / z, done ++ [r % z], _, rfl, (Ex.mut (e.trans e5) nl).trans e6, ?_, by rw [List.length_append]; simp [hd], ?_⟩
        · rw [List.map_append]
          exact e6 l _ upd_same
        · rw [List.append_assoc]
          exact hf
      · rintro σ' H' ⟨r, done, v, rfl, e, hl, hd, hf⟩
        rw [List.length_map, List.drop_length] at hf
        have hf2 : done = digA (c - 1000000000000000000) ss := by rw [← hf]; simp [digA]
        subst hf2
        exact s_ret (ev_var rfl) fun H5 e5 => q l H5 nl (e.trans e5) (e5 l _ hl)
    · have hlt : ¬ 1000000000000000000 ≤ c := by
        have := of_decide_eq_false hb
        rw [e18] at this
        exact this
      have hv : digitsF c ss = digB (c % 2147483629) 0 ss := if_neg hlt
      rw [hv] at q
      refine q_asg (ev_op (ev_int (ev_var rfl)) ev_c (rv_I (by decide))) fun H4 e4 => ?_
      have e14 : Ex H H4 := ((e1.trans e2).trans e3).trans e4
      refine q_forR1 (ea_cons (ev_len (ev_var rfl) (ex_l e14 hS)) ea_nil) ⟨by omega, by rw [List.length_map]; omega⟩ (fun i σ' H' => ∃ (sd : Int) (done : List Int) (v u : Option V), σ' = [some (.int c), some (.ref b), some (.ref l), some (.int c), some (.int sd), v, none, u] ∧ Ex H H' ∧ H' l = some (.lst (done.map V.int)) ∧ done.length = i ∧ 0 ≤ sd ∧ sd < 2147483647 ∧ done ++ digB sd i (ss.drop i) = digB (c % 2147483629) 0 ss)
        (fun H5 e5 => ⟨_, [], none, none, rfl, e14.trans e5, e5 l _ (e4 l _ (e3 l _ (e2 l _ h1))), rfl, Int.emod_nonneg _ (by decide), Int.lt_trans (Int.emod_lt_of_pos _ (by decide)) (by decide), rfl⟩) ?_ ?_
      · rintro i σ' H' hi ⟨sd, done, v, u, rfl, e, hl, hd, h0, h1', hf⟩
        rw [List.length_map] at hi
        obtain ⟨z, hz⟩ : ∃ z, ss[i]? = some z := ⟨_, List.getElem?_eq_getElem (by omega)⟩
        obtain ⟨z0, z1⟩ := hss z (List.mem_of_getElem? hz)
        rw [drop_get hz] at hf
        have hm : 0 ≤ (sd * 48271 + 974711 * (i : Int) + 12345) % 2147483647 := Int.emod_nonneg _ (by decide)
        have hm2 : (sd * 48271 + 974711 * (i : Int) + 12345) % 2147483647 < 2147483647 := Int.emod_lt_of_pos _ (by decide)
        refine q_asg (ev_op (ev_int (ev_op (ev_op (ev_op (ev_var rfl) ev_c (rv_I (by unfold CMul; omega))) (ev_op ev_c (ev_var rfl) (rv_I (by unfold CMul; omega))) rv_I0) ev_c rv_I0)) ev_c (rv_I (by decide))) fun H5 e5 => ?_
        refine q_asg (ev_op (ev_int (ev_op (ev_var rfl) (ev_op (ev_op (ev_var rfl) ev_c (rv_I (by unfold CDiv; decide))) ev_c rv_I0) (rv_I (by unfold CMul; omega)))) ev_c (rv_I (by decide))) fun H6 e6 => ?_
        have e16 : Ex H H6 := (e.trans e5).trans e6
        refine s_app (e6 l _ (e5 l _ hl)) (ev_var rfl) (ev_op (ev_op (ev_var rfl) ev_c (rv_I (by unfold CDiv; decide))) (ev_op (ev_var rfl) (ev_var rfl) (rv_ixL (ex_l e16 hS) (at_map (by omega) (by simpa using hz)))) (rv_I z0)) (by rw [List.length_map]; omega) fun H7 e7 => ?_
        refine ⟨_, done ++ [(sd * 48271 + 974711 * (i : Int) + 12345) % 2147483647 * ((sd * 48271 + 974711 * (i : Int) + 12345) % 2147483647 / 65537 + 3) % 2147483629 / 19 % z], _, _, rfl, Ex.mut (e16.trans e7) nl, ?_, by rw [List.length_append]; simp [hd], hm, hm2, ?_⟩
        · rw [List.map_append]
          exact upd_same
        · rw [List.append_assoc]
          exact hf
      · rintro σ' H' ⟨sd, done, v, u, rfl, e, hl, hd, h0, h1', hf⟩
        have en : ((ss.map V.int).length : Int).toNat = ss.length := by simp
        rw [en, List.drop_length] at hf
        have hf2 : done = digB (c % 2147483629) 0 ss := by rw [← hf]; simp [digB]
        subst hf2
        exact s_ret (ev_var rfl) fun H5 e5 => q l H5 nl (e.trans e5) (e5 l _ hl)
end

/-! ### numbers that may be asked -/
def Big : Nat := 2 ^ 240
theorem big_steps {e s c k : Nat} (hs : 1 ≤ s) (hc : c ≤ Big) (h : Cm e s k < c) : k ≤ 241 := by
  have h1 := Cm_big (e := e) hs k
  refine Nat.le_of_not_lt fun hk => ?_
  have h2 : 2 ^ 242 ≤ 2 ^ k := Nat.pow_le_pow_right (by decide) (by omega)
  have h3 : Big + 2 < 2 ^ 242 := by decide +kernel
  omega
theorem Rm_twice (e s k : Nat) : Rm e s (k + 1) * 2 = Rm e s (k + 2) := by
  show s * 2 ^ (k + 1) * 2 = s * 2 ^ (k + 2)
  rw [Nat.pow_succ 2 (k + 1), Nat.mul_assoc]
theorem Rm_pos {e s : Nat} (hs : 1 ≤ s) (k : Nat) : 1 ≤ Rm e s (k + 1) := Nat.mul_pos hs (Nat.pow_pos (by decide))
section
variable {P : Program} {w : World} {K : PySem.W.Frag} {mg : Str → Option Value} {base : Heap}

/-! ### the program -/
abbrev s_least_bits : Stmt := top 2
abbrev N_least_bits : List Str := ["count", "empties", "share", "total", "rest", "bits", "room", "taken"]
theorem sc_least_bits : FnScope N_least_bits ["count", "empties", "share"] (defScope s_least_bits) := ⟨rfl, rfl, rfl, by decide +kernel, rfl, by decide +kernel, by decide +kernel⟩
def spLB : Sp := fun vs H Q _ => ∃ c e s : Nat, vs = [.int (c : Int), .int (e : Int), .int (s : Int)] ∧ 1 ≤ s ∧ c ≤ Big ∧ RetV (.int (totE e s c : Nat)) H Q
theorem sv_lb {c e s : Nat} {H : Hp} (h1 : 1 ≤ s) (hc : c ≤ Big) : SpV spLB [.int (c : Int), .int (e : Int), .int (s : Int)] H (.int (totE e s c : Nat)) := fun _ _ _ q _ => ⟨c, e, s, rfl, h1, hc, q⟩
theorem ok_least_bits (T : TT mg) (F : At K mg "_least_bits" s_least_bits) : Dn P w K mg base 1 "_least_bits" s_least_bits ["count", "empties", "share"] spLB := by
  refine dn_ok F sc_least_bits (fun _ _ _ _ _ _ us hl => match us, hl with | [_, _, _], _ => rfl) (fun vs H Q E h => ?_) (fun f cdv A outer t H vs Q E hr h => ?_)
  · obtain ⟨c, e, s, rfl, _⟩ := h; rfl
  · obtain ⟨c, e, s, rfl, h1, hc, q⟩ := h
    refine ⟨_, (pss_cons (ps_set (i := 3) sc_least_bits.nd rfl (Or.inl rfl) pe_int)
      (pss_cons (ps_set (i := 4) sc_least_bits.nd rfl (Or.inl rfl) (pe_callB (call_max2 rfl) (by rfl) T.max (by decide +kernel) (pa_cons pe_int (pa_cons (pe_op op_sub (pv 0) (pv 1)) pa_nil))))
      (pss_cons (ps_set (i := 5) sc_least_bits.nd rfl (Or.inl rfl) pe_int)
      (pss_cons (ps_set (i := 6) sc_least_bits.nd rfl (Or.inl rfl) (pe_op op_mul pe_int (pv 2)))
      (pss_cons (ps_while PassesOwn.never (pt_cmpR op_gt (pv 4) pe_int (nomark _))
        (pss_cons (ps_set (i := 7) sc_least_bits.nd rfl (Or.inl rfl) (pe_callB (call_min2 rfl) (by rfl) T.min (by decide +kernel) (pa_cons (pv 4) (pa_cons (pv 6) pa_nil))))
          (pss_cons (ps_aug (i := 3) sc_least_bits.nd rfl (Or.inl rfl) (pe_op op_mul (pv 7) (pv 5)) (pip_of iop_add))
          (pss_cons (ps_aug (i := 4) sc_least_bits.nd rfl (Or.inl rfl) (pv 7) (pip_of iop_sub))
          (pss_cons (ps_aug (i := 5) sc_least_bits.nd rfl (Or.inl rfl) pe_int (pip_of iop_add))
          (pss_one (ps_aug (i := 6) sc_least_bits.nd rfl (Or.inl rfl) pe_int (pip_of iop_mul))))))))
      (pss_one (ps_ret (pv 3)))))))), ?_⟩
    refine q_asg ev_c fun H1 e1 => ?_
    have hm : (if (c : Int) - (e : Int) > 0 then (c : Int) - (e : Int) else 0) = ((c - Cm e s 1 : Nat) : Int) := by
      show _ = ((c - (0 + e) : Nat) : Int)
      split <;> omega
    refine q_asg (ev_max2 ev_c (ev_op (ev_var rfl) (ev_var rfl) rv_I0)) fun H2 e2 => ?_
    rw [hm]
    refine q_asg ev_c fun H3 e3 => ?_
    refine q_asg (ev_op ev_c (ev_var rfl) (rv_I (Or.inl (by decide)))) fun H4 e4 => ?_
    refine q_while (fun m σ H' => ∃ (b tt : Nat) (v : Option V), c - Cm e s (b + 1) = m ∧ σ = [some (.int (c : Int)), some (.int (e : Int)), some (.int (s : Int)), some (.int (tt : Int)), some (.int ((c - Cm e s (b + 1) : Nat) : Int)), some (.int ((b + 1 : Nat) : Int)), some (.int (Rm e s (b + 1) : Nat)), v] ∧ Ex H H' ∧ tt + (b + 1) * (c - Cm e s (b + 1)) = Tm e s c (b + 1))
      (c - Cm e s 1) ⟨0, 0, none, rfl, ?_, ((e1.trans e2).trans e3).trans e4, by show 0 + (0 + 1) * (c - Cm e s (0 + 1)) = 0 + (c - Cm e s (0 + 1)); omega⟩ ?_
    · have e9 : (2 : Int) * (s : Int) = ((Rm e s 1 : Nat) : Int) := by
        show _ = ((s * 2 ^ 1 : Nat) : Int)
        rw [Nat.pow_one]
        omega
      rw [e9]
      rfl
    · rintro m σ' H' ⟨b, tt, v, rfl, rfl, ex, hinv⟩
      refine ⟨_, et_test (ev_op (ev_var rfl) ev_c rv_I0), fun hb H6 e6 => ?_, fun hb H6 e6 => ?_⟩
      · have hlt : Cm e s (b + 1) < c := by
          have := of_decide_eq_true hb
          omega
        have hb41 := big_steps h1 hc hlt
        have hturn := tot_turn hinv
        have hRp := Rm_pos (e := e) h1 b
        have hC : Cm e s (b + 1 + 1) = Cm e s (b + 1) + Rm e s (b + 1) := rfl
        refine ⟨fun σ2 H2 => ∃ m', m' < c - Cm e s (b + 1) ∧ ∃ (b tt : Nat) (v : Option V), c - Cm e s (b + 1) = m' ∧ σ2 = [some (.int (c : Int)), some (.int (e : Int)), some (.int (s : Int)), some (.int (tt : Int)), some (.int ((c - Cm e s (b + 1) : Nat) : Int)), some (.int ((b + 1 : Nat) : Int)), some (.int (Rm e s (b + 1) : Nat)), v] ∧ Ex H H2 ∧ tt + (b + 1) * (c - Cm e s (b + 1)) = Tm e s c (b + 1), fun _ _ h => h, ?_⟩
        refine q_asg (ev_min2 (ev_var rfl) (ev_var rfl)) fun H7 e7 => ?_
        rw [min2_nat]
        refine q_augR rfl (ev_op (ev_var rfl) (ev_var rfl) (rv_I (Or.inr (by omega)))) rv_I0 fun H8 e8 => ?_
        refine q_augR rfl (ev_var rfl) rv_I0 fun H9 e9 => ?_
        refine q_augR rfl ev_c rv_I0 fun H10 e10 => ?_
        refine s_augR rfl ev_c (rv_I (Or.inr (by decide))) fun H11 e11 => ?_
        refine ⟨c - Cm e s (b + 1 + 1), by omega, b + 1, tt + (b + 1) * min (c - Cm e s (b + 1)) (Rm e s (b + 1)), some (.int ((min (c - Cm e s (b + 1)) (Rm e s (b + 1)) : Nat) : Int)), rfl, ?_, (((((ex.trans e6).trans e7).trans e8).trans e9).trans e10).trans e11, hturn⟩
        have f1 : ((tt : Nat) : Int) + ((min (c - Cm e s (b + 1)) (Rm e s (b + 1)) : Nat) : Int) * ((b + 1 : Nat) : Int) = ((tt + (b + 1) * min (c - Cm e s (b + 1)) (Rm e s (b + 1)) : Nat) : Int) := by
          rw [Nat.mul_comm (b + 1), Int.natCast_add tt, Int.natCast_mul]
        have f2 : ((c - Cm e s (b + 1) : Nat) : Int) - ((min (c - Cm e s (b + 1)) (Rm e s (b + 1)) : Nat) : Int) = ((c - Cm e s (b + 1 + 1) : Nat) : Int) := by omega
        have f3 : ((b + 1 : Nat) : Int) + 1 = ((b + 1 + 1 : Nat) : Int) := by omega
        have f4 : ((Rm e s (b + 1) : Nat) : Int) * 2 = ((Rm e s (b + 1 + 1) : Nat) : Int) := by
          rw [← Rm_twice, Int.natCast_mul]
          rfl
        rw [← f1, ← f2, ← f3, ← f4]
        rfl
      · have hge : c ≤ Cm e s (b + 1) := by
          have := of_decide_eq_false hb
          omega
        have ht : tt = totE e s c := by
          rw [← tot_is h1 hge, ← hinv, Nat.sub_eq_zero_of_le hge]
          omega
        subst ht
        exact s_ret (ev_var rfl) fun H7 e7 => q H7 ((ex.trans e6).trans e7)
end
theorem cB (s w : Nat) : ((Bn s w : Nat) : Int) + ((s ^ (w + 1) : Nat) : Int) * ((w + 1 : Nat) : Int) = ((Bn s (w + 1) : Nat) : Int) := by
  rw [← Int.natCast_mul, ← Int.natCast_add]
  congr 1
  show Bn s w + s ^ (w + 1) * (w + 1) = Bn s w + (w + 1) * s ^ (w + 1)
  rw [Nat.mul_comm]
theorem cS (s w : Nat) : ((Sn s w : Nat) : Int) + ((s ^ (w + 1) : Nat) : Int) = ((Sn s (w + 1) : Nat) : Int) := by
  rw [← Int.natCast_add]
  rfl
theorem cP (s w : Nat) : ((s ^ (w + 1) : Nat) : Int) * ((s : Nat) : Int) = ((s ^ (w + 1 + 1) : Nat) : Int) := by
  rw [← Int.natCast_mul]
  rfl
theorem cN (w : Nat) : ((w + 1 : Nat) : Int) + 1 = ((w + 1 + 1 : Nat) : Int) := by omega
theorem tri_cast (c : Nat) : ((c : Int) * ((c : Int) + 1)) / 2 = ((c * (c + 1) / 2 : Nat) : Int) := by
  rw [Int.natCast_ediv, Int.natCast_mul, Int.natCast_add]
  rfl
theorem capN {c : Nat} (h : c ≤ cap) : ((c : Nat) : Int).natAbs < 2 ^ 1000 := by
  have a := cap_lt
  have b : (2 : Nat) ^ 101 < 2 ^ 1000 := by decide +kernel
  rw [Int.natAbs_natCast]
  omega
theorem capN1 {c : Nat} (h : c ≤ cap) : ((c : Nat) : Int).natAbs + 10 < 2 ^ 1000 := by
  have a := cap_lt
  have b : (2 : Nat) ^ 101 + 10 < 2 ^ 1000 := by decide +kernel
  rw [Int.natAbs_natCast]
  omega

def eT (p : Nat) : Nat := p * (p - 1) / 2
def sT (p : Nat) : Nat := p * p
theorem eT_cast {p : Nat} (h : 1 ≤ p) : (p : Int) * ((p : Int) - 1) / 2 = ((eT p : Nat) : Int) := by
  unfold eT
  rw [Int.natCast_ediv, Int.natCast_mul]
  have : ((p : Int) - 1) = ((p - 1 : Nat) : Int) := by omega
  rw [this]
  rfl
theorem sT_cast (p : Nat) : (p : Int) * (p : Int) = ((sT p : Nat) : Int) := by unfold sT; rw [Int.natCast_mul]
theorem sT_pos {p : Nat} (h : 1 ≤ p) : 1 ≤ sT p := Nat.mul_pos h h
theorem Cm_one : ∀ k, Cm 0 1 (k + 1) = Sn 2 k
  | 0 => rfl
  | k + 1 => by
    show Cm 0 1 (k + 1) + 1 * 2 ^ (k + 1) = Sn 2 k + 2 ^ (k + 1)
    rw [Cm_one k, Nat.one_mul]
theorem tot_one_standing (c : Nat) : totF 2 c = totE 0 1 c := by
  obtain ⟨w, r, hc, hr, ht⟩ := totF_spec (s := 2) (c := c) (by decide)
  have hstep : ∀ j, j ≤ w → Bn 2 j + (j + 1) * (c - Cm 0 1 (j + 1)) = Tm 0 1 c (j + 1) := by
    intro j
    induction j with
    | zero =>
      intro _
      show 0 + (0 + 1) * (c - Cm 0 1 (0 + 1)) = 0 + (c - Cm 0 1 (0 + 1))
      omega
    | succ j ih =>
      intro hj
      have h := tot_turn (ih (by omega))
      have hm := Sn_mono (s := 2) hj
      have e1 : Sn 2 (j + 1) = Sn 2 j + 2 ^ (j + 1) := rfl
      have e2 : Rm 0 1 (j + 1) = 2 ^ (j + 1) := Nat.one_mul _
      have e3 := Cm_one j
      have hmin : min (c - Cm 0 1 (j + 1)) (Rm 0 1 (j + 1)) = 2 ^ (j + 1) := by omega
      rw [hmin] at h
      exact h
  have hw := hstep w (Nat.le_refl _)
  have e3 := Cm_one w
  have e4 : Cm 0 1 (w + 2) = Cm 0 1 (w + 1) + 1 * 2 ^ (w + 1) := rfl
  have hr2 : c - Cm 0 1 (w + 1) = r := by omega
  rw [hr2] at hw
  have hle : c ≤ Cm 0 1 (w + 2) := by omega
  rw [ht, hw, ← tot_is (by decide) hle]
  show _ = Tm 0 1 c (w + 1) + (c - Cm 0 1 (w + 2))
  omega
section
variable {P : Program} {w : World} {K : PySem.W.Frag} {mg : Str → Option Value} {base : Heap}
abbrev s_shortest_total : Stmt := top 4
abbrev N_shortest_total : List Str := ["size", "count", "total", "rest", "length", "texts"]
theorem sc_shortest_total : FnScope N_shortest_total ["size", "count"] (defScope s_shortest_total) := ⟨rfl, rfl, rfl, by decide +kernel, rfl, by decide +kernel, by decide +kernel⟩
def spST : Sp := fun vs H Q _ => ∃ s c : Nat, vs = [.int (s : Int), .int (c : Int)] ∧ 1 ≤ s ∧ s ≤ 6 ∧ c ≤ cap ∧ RetV (.int (totF s c : Nat)) H Q
theorem ok_shortest_total (F : At K mg "shortest_total" s_shortest_total) : Dn P w K mg base 1 "shortest_total" s_shortest_total ["size", "count"] spST := by
  refine dn_ok F sc_shortest_total (fun _ _ _ _ _ _ us hl => match us, hl with | [_, _], _ => rfl) (fun vs H Q E h => ?_) (fun f cdv A outer t H vs Q E hr h => ?_)
  · obtain ⟨s, c, rfl, _⟩ := h; rfl
  · obtain ⟨s, c, rfl, h1, h6, hc, q⟩ := h
    refine ⟨_, (pss_cons (ps_if (pt_cmpR op_eq (pv 0) pe_int (nomark _)) (pss_one (ps_ret (pe_op op_fdiv (pe_op op_mulW (pv 1) (pe_op op_add (pv 1) pe_int)) pe_int))) pss_nil)
      (pss_cons (ps_set (i := 2) sc_shortest_total.nd rfl (Or.inl rfl) pe_int)
      (pss_cons (ps_set (i := 3) sc_shortest_total.nd rfl (Or.inl rfl) (pv 1))
      (pss_cons (ps_set (i := 4) sc_shortest_total.nd rfl (Or.inl rfl) pe_int)
      (pss_cons (ps_set (i := 5) sc_shortest_total.nd rfl (Or.inl rfl) (pv 0))
      (pss_cons (ps_while PassesOwn.never (pt_cmpR op_gt (pv 3) (pv 5) (nomark _))
        (pss_cons (ps_aug (i := 2) sc_shortest_total.nd rfl (Or.inl rfl) (pe_op op_mul (pv 5) (pv 4)) (pip_of iop_add))
          (pss_cons (ps_aug (i := 3) sc_shortest_total.nd rfl (Or.inl rfl) (pv 5) (pip_of iop_sub))
          (pss_cons (ps_aug (i := 4) sc_shortest_total.nd rfl (Or.inl rfl) pe_int (pip_of iop_add))
          (pss_one (ps_aug (i := 5) sc_shortest_total.nd rfl (Or.inl rfl) (pv 0) (pip_of iop_mul)))))))
      (pss_one (ps_ret (pe_op op_add (pv 2) (pe_op op_mul (pv 3) (pv 4))))))))))), ?_⟩
    refine q_when (et_test (ev_op (ev_var rfl) ev_c (rv_eq rfl))) (fun hb H1 e1 => ?_) (fun hb H1 e1 => ?_)
    · have hs : s = 1 := by
        have := of_decide_eq_true hb
        injection this
        omega
      subst hs
      rw [totF_is (by decide) (tot_one c), ← tri_cast] at q
      exact s_ret (ev_op (ev_op (ev_var rfl) (ev_op (ev_var rfl) ev_c rv_I0) (rv_I (wmul (capN hc) (by have := capN1 hc; omega)))) ev_c (rv_I (by unfold CDiv; decide))) fun H2 e2 => q H2 (e1.trans e2)
    · have hs : 2 ≤ s := by
        have := of_decide_eq_false hb
        by_cases z : s = 1
        · subst z; exact absurd rfl this
        · omega
      refine q_asg ev_c fun H2 e2 => ?_
      refine q_asg (ev_var rfl) fun H3 e3 => ?_
      refine q_asg ev_c fun H4 e4 => ?_
      refine q_asg (ev_var rfl) fun H5 e5 => ?_
      refine q_while (fun m σ H' => ∃ v rest : Nat, rest = m ∧ σ = [some (.int (s : Int)), some (.int (c : Int)), some (.int (Bn s v : Nat)), some (.int (rest : Int)), some (.int (v + 1 : Nat)), some (.int (s ^ (v + 1) : Nat))] ∧ Ex H H' ∧ c = Sn s v + rest ∧ s ^ v ≤ 6 * cap)
        c ⟨0, c, rfl, by rw [Nat.pow_one]; rfl, (((e1.trans e2).trans e3).trans e4).trans e5, by simp [Sn], by rw [Nat.pow_zero]; decide +kernel⟩ ?_
      rintro m σ' H' ⟨v, rest, rfl, rfl, e, hcr, hv⟩
      have v110 := level_small hs hv
      refine ⟨_, et_test (ev_op (ev_var rfl) (ev_var rfl) rv_I0), fun hb2 H6 e6 => ?_, fun hb2 H6 e6 => ?_⟩
      · have hlt : s ^ (v + 1) < rest := by
          have := of_decide_eq_true hb2
          omega
        refine ⟨fun σ2 H2 => ∃ m', m' < rest ∧ ∃ v rest : Nat, rest = m' ∧ σ2 = [some (.int (s : Int)), some (.int (c : Int)), some (.int (Bn s v : Nat)), some (.int (rest : Int)), some (.int (v + 1 : Nat)), some (.int (s ^ (v + 1) : Nat))] ∧ Ex H H2 ∧ c = Sn s v + rest ∧ s ^ v ≤ 6 * cap, fun _ _ h => h, ?_⟩
        refine q_augR rfl (ev_op (ev_var rfl) (ev_var rfl) (rv_I (Or.inr (by omega)))) rv_I0 fun H7 e7 => ?_
        refine q_augR rfl (ev_var rfl) rv_I0 fun H8 e8 => ?_
        refine q_augR rfl ev_c rv_I0 fun H9 e9 => ?_
        refine s_augR rfl (ev_var rfl) (rv_I (Or.inr (by omega))) fun H10 e10 => ?_
        have hp := pow_pos' (show 1 ≤ s by omega) (v + 1)
        refine ⟨rest - s ^ (v + 1), by omega, v + 1, rest - s ^ (v + 1), rfl, ?_, ((((e.trans e6).trans e7).trans e8).trans e9).trans e10, ?_, by omega⟩
        · have e1 : ((rest : Nat) : Int) - ((s ^ (v + 1) : Nat) : Int) = ((rest - s ^ (v + 1) : Nat) : Int) := by omega
          rw [← cB, ← cP, ← cN, ← e1]
          rfl
        · show c = Sn s v + s ^ (v + 1) + (rest - s ^ (v + 1))
          omega
      · have hge : rest ≤ s ^ (v + 1) := by
          have := of_decide_eq_false hb2
          omega
        have ht : totF s c = Bn s v + (v + 1) * rest := totF_is (by omega) ⟨v, rest, hcr, hge, rfl⟩
        have ev : ((totF s c : Nat) : Int) = ((Bn s v : Nat) : Int) + ((rest : Nat) : Int) * ((v + 1 : Nat) : Int) := by
          rw [ht, Int.natCast_add, Int.natCast_mul, Int.mul_comm]
        rw [ev] at q
        exact s_ret (ev_op (ev_var rfl) (ev_op (ev_var rfl) (ev_var rfl) (rv_I (Or.inr (by omega)))) rv_I0) fun H7 e7 => q H7 ((e.trans e6).trans e7)
theorem sv_st {s c : Nat} {H : Hp} (h1 : 1 ≤ s) (h6 : s ≤ 6) (hc : c ≤ cap) : SpV spST [.int (s : Int), .int (c : Int)] H (.int (totF s c : Nat)) := fun _ _ _ q _ => ⟨s, c, rfl, h1, h6, hc, q⟩
abbrev s_floor_bits : Stmt := top 1
abbrev N_floor_bits : List Str := ["standings", "count"]
theorem sc_floor_bits : FnScope N_floor_bits ["standings", "count"] (defScope s_floor_bits) := ⟨rfl, rfl, rfl, by decide +kernel, rfl, by decide +kernel, by decide +kernel⟩
def spTot : Sp := fun vs H Q _ => ∃ p c : Nat, vs = [.int (p : Int), .int (c : Int)] ∧ 1 ≤ p ∧ p ≤ 10000 ∧ c ≤ Big ∧ RetV (.int (totE (eT p) (sT p) c : Nat)) H Q
theorem sv_tot {p c : Nat} {H : Hp} (h1 : 1 ≤ p) (h2 : p ≤ 10000) (hc : c ≤ Big) : SpV spTot [.int (p : Int), .int (c : Int)] H (.int (totE (eT p) (sT p) c : Nat)) := fun _ _ _ q _ => ⟨p, c, rfl, h1, h2, hc, q⟩
theorem pmul {p : Nat} (h : p ≤ 10000) (j : Int) : CMul (p : Int) j := Or.inl (by omega)
theorem ok_floor_bits (D_least_bits : Dn P w K mg base 1 "_least_bits" s_least_bits ["count", "empties", "share"] spLB) (F : At K mg "floor_bits" s_floor_bits) : Dn P w K mg base 2 "floor_bits" s_floor_bits ["standings", "count"] spTot := by
  refine dn_ok F sc_floor_bits (fun _ _ _ _ _ _ us hl => match us, hl with | [_, _], _ => rfl) (fun vs H Q E h => ?_) (fun f cdv A outer t H vs Q E hr h => ?_)
  · obtain ⟨p, c, rfl, _⟩ := h; rfl
  · obtain ⟨p, c, rfl, h1, h2, hc, q⟩ := h
    refine ⟨_, (pss_one (ps_ret (pe_dn D_least_bits hr (by decide) rfl (pa_cons (pv 1) (pa_cons (pe_op op_fdiv (pe_op op_mul (pv 0) (pe_op op_sub (pv 0) pe_int)) pe_int) (pa_cons (pe_op op_mul (pv 0) (pv 0)) pa_nil)))))), ?_⟩
    exact s_ret (ev_call (ea_cons (ev_var rfl) (ea_cons (ev_is (ev_op (ev_op (ev_var rfl) (ev_op (ev_var rfl) ev_c rv_I0) (rv_I (pmul h2 _))) ev_c (rv_I (by unfold CDiv; decide))) (congrArg V.int (eT_cast h1))) (ea_cons (ev_is (ev_op (ev_var rfl) (ev_var rfl) (rv_I (pmul h2 _))) (congrArg V.int (sT_cast p))) ea_nil))) (sv_lb (sT_pos h1) hc)) fun H1 e1 => q H1 e1
end
end My

set_option Elab.async false
set_option linter.all false
set_option maxRecDepth 100000
set_option maxHeartbeats 4000000
namespace My
open PySem PySem.Spec PyProof.Rows L2 Evl
open SX (S S_len S_cat S_beq S_beq_eq S_inj S_tl)

theorem Cm_le (s : Nat) : ∀ k, Cm s s k + s ≤ s * 2 ^ k
  | 0 => by show 0 + s ≤ s * 1; omega
  | k + 1 => by
    have ih := Cm_le s k
    have e : Cm s s (k + 1) = Cm s s k + Rm s s k := rfl
    rw [Rm_same] at e
    have h3 : s * 2 ^ (k + 1) = s * 2 ^ k + s * 2 ^ k := by rw [Nat.pow_succ, Nat.mul_comm _ 2, Nat.mul_left_comm]; omega
    omega
theorem tight_at (g : Bool) {rs us : List Nat} {i : Nat} (hr : i < rs.length) (hu : i < us.length) : tightF g (rs.drop i) (us.drop i) = if g = true ∧ 0 < us.getD i 0 then false else tightF (g || decide (us.getD i 0 < rs.getD i 0)) (rs.drop (i + 1)) (us.drop (i + 1)) := by
  rw [List.drop_eq_getElem_cons hr, List.drop_eq_getElem_cons hu, List.getD_eq_getElem?_getD, List.getElem?_eq_getElem hu, List.getD_eq_getElem?_getD, List.getElem?_eq_getElem hr]
  rfl
/-- what a choice comes to -/
def wsum (ls us : List Nat) : Nat := ((List.range us.length).map fun k => ls.getD k 0 * us.getD k 0).sum
theorem given_nat (n : Nat) (f : Nat → Nat) : given n (fun _ => true) (fun k => V.int ((f k : Nat) : Int)) = (nI ((List.range n).map f)).map V.int := by
  unfold given
  rw [List.filter_eq_self.mpr (fun _ _ => rfl), List.map_map, List.map_map]
  rfl
section
variable {P : Program} {w : World} {K : PySem.W.Frag} {mg : Str → Option Value} {base : Heap}
abbrev s_law_bit_words : Stmt := top 9
abbrev N_law_bit_words : List Str := ["most", "words", "at"]
theorem sc_law_bit_words : FnScope N_law_bit_words ["most"] (defScope s_law_bit_words) := ⟨rfl, rfl, rfl, by decide +kernel, rfl, by decide +kernel, by decide +kernel⟩
def wordsF : Nat → List (List Nat)
  | 0 => [[]]
  | i + 1 => wordsF i ++ [(wordsF i).getD i [] ++ ("0" : Str).cps.toList, (wordsF i).getD i [] ++ ("1" : Str).cps.toList]
def spBW : Sp := fun vs H Q _ => vs = [.int 31] ∧ RetL ((wordsF 15).map fun c => V.str (S c)) H Q
theorem sl_bw {H : Hp} : SpL spBW [.int 31] H ((wordsF 15).map fun c => V.str (S c)) := fun H1 e Q q _ => ⟨rfl, fun p H2 hp e2 h2 => q p H2 hp e2 h2⟩
theorem wlen {ws : List (List Nat)} {i : Nat} {xs : List V} (hx : xs = ws.map fun c => V.str (S c)) (h : i < ws.length) : atI xs (i : Int) = some (.str (S (ws.getD i []))) := by
  subst hx
  have e : ixN (ws.map fun c => V.str (S c)).length (i : Int) = some i := by
    unfold ixN
    rw [List.length_map, if_pos (by omega), if_pos (by omega)]
    simp
  unfold atI
  rw [e]
  show (ws.map fun c => V.str (S c))[i]? = _
  rw [List.getElem?_map, List.getElem?_eq_getElem h, List.getD_eq_getElem?_getD, List.getElem?_eq_getElem h]
  rfl
theorem lev_step : ∀ i, i < 15 → lev (2 * i + 1) = lev i + 1 ∧ lev (2 * i + 2) = lev i + 1 := by decide
theorem words_ok : ∀ i, i ≤ 15 → (wordsF i).length = 2 * i + 1 ∧ ∀ k, k < 2 * i + 1 → ((wordsF i).getD k []).length = lev k
  | 0, _ => ⟨rfl, fun k hk => by
    have : k = 0 := by omega
    subst this
    rfl⟩
  | i + 1, h => by
    obtain ⟨hw, hlev⟩ := words_ok i (by omega)
    obtain ⟨s1, s2⟩ := lev_step i (by omega)
    have hli := hlev i (by omega)
    have hone : ("0" : Str).cps.toList.length = 1 ∧ ("1" : Str).cps.toList.length = 1 := by decide +kernel
    refine ⟨by show (wordsF i ++ [_, _]).length = _; rw [List.length_append, hw]; show 2 * i + 1 + 2 = _; omega, fun k hk => ?_⟩
    show ((wordsF i ++ [(wordsF i).getD i [] ++ ("0" : Str).cps.toList, (wordsF i).getD i [] ++ ("1" : Str).cps.toList]).getD k []).length = lev k
    by_cases h1' : k < 2 * i + 1
    · rw [List.getD_eq_getElem?_getD, List.getElem?_append_left (by omega), ← List.getD_eq_getElem?_getD]
      exact hlev k h1'
    · have hk2 : k = 2 * i + 1 ∨ k = 2 * i + 2 := by omega
      rcases hk2 with rfl | rfl
      · rw [List.getD_eq_getElem?_getD, List.getElem?_append_right (by omega), hw, s1, ← hli, Nat.sub_self]
        show ((wordsF i).getD i [] ++ ("0" : Str).cps.toList).length = _
        rw [List.length_append, hone.1]
      · rw [List.getD_eq_getElem?_getD, List.getElem?_append_right (by omega), hw, s2, ← hli, show 2 * i + 2 - (2 * i + 1) = 1 by omega]
        show ((wordsF i).getD i [] ++ ("1" : Str).cps.toList).length = _
        rw [List.length_append, hone.2]
theorem ok_law_bit_words (T : TT mg) (F : At K mg "_law_bit_words" s_law_bit_words) : Dn P w K mg base 1 "_law_bit_words" s_law_bit_words ["most"] spBW := by
  refine dn_ok F sc_law_bit_words (fun _ _ _ _ _ _ us hl => match us, hl with | [_], _ => rfl) (fun vs H Q E h => ?_) (fun f cdv A outer t H vs Q E hr h => ?_)
  · obtain ⟨rfl, _⟩ := h; rfl
  · obtain ⟨rfl, q⟩ := h
    refine ⟨_, (pss_cons (ps_set (i := 1) sc_law_bit_words.nd rfl (Or.inl rfl) (pe_lst (pa_cons pe_str pa_nil)))
      (pss_cons (ps_for PassesOwn.never rfl (pi_range1 (by rfl) T.range (pa_cons (pv 0) pa_nil)) (pg_name (i := 2) sc_law_bit_words.nd rfl (Or.inl rfl))
        (pss_cons (ps_if (pt_cmpR op_ge (pe_callB call_len_seq (by rfl) T.len boot_len (pa_cons (pv 1) pa_nil)) (pv 0) (nomark _)) (pss_one ps_break) pss_nil)
          (pss_cons (ps_expr (pe_bm PySem.F.plainAttrs_list PySem.F.slot_list_append PySem.F.type_list_append mt_append (pv 1) (pa_cons (pe_op op_add_str (pe_ix ix_list (pv 1) (pv 2) (fun _ _ => rfl)) pe_str) pa_nil)))
          (pss_one (ps_expr (pe_bm PySem.F.plainAttrs_list PySem.F.slot_list_append PySem.F.type_list_append mt_append (pv 1) (pa_cons (pe_op op_add_str (pe_ix ix_list (pv 1) (pv 2) (fun _ _ => rfl)) pe_str) pa_nil)))))))
      (pss_one (ps_ret (pe_slice sl_list (pv 1) po_none (po_some (pv 0))))))), ?_⟩
    refine q_asgL (xs := ([[]] : List (List Nat)).map fun c => V.str (S c)) (el_lst (ea_cons ev_c ea_nil) (by show 1 ≤ 100000; decide)) fun l H1 nl e1 h1 => ?_
    refine q_forR1 (ea_cons (ev_var rfl) ea_nil) ⟨by decide, by decide⟩ (fun i σ' H' => ∃ (ws : List (List Nat)) (v : Option V), ws = wordsF i ∧ σ' = [some (.int 31), some (.ref l), v] ∧ Ex H H' ∧ H' l = some (.lst (ws.map fun c => V.str (S c))) ∧ i ≤ 15 ∧ ws.length = 2 * i + 1 ∧ ∀ k, k < 2 * i + 1 → (ws.getD k []).length = lev k)
      (fun H2 e2 => ⟨[[]], none, rfl, rfl, e1.trans e2, e2 _ _ h1, by decide, rfl, fun k hk => by
        have : k = 0 := by omega
        subst this
        rfl⟩) ?_ ?_
    · rintro i σ' H' hi ⟨ws, v, hws, rfl, e, hl, hi15, hw, hlev⟩
      refine q_when (et_test (ev_op (ev_len (K := K) (ev_var rfl) (sq_of hl)) (ev_var rfl) rv_I0)) (fun hb H2 e2 => ?_) (fun hb H2 e2 => ?_)
      · have h15 : i = 15 := by
          have := of_decide_eq_true hb
          rw [List.length_map, hw] at this
          omega
        subst h15
        have hcut : cutV (ws.map fun c => V.str (S c)) none (some 31) = ws.map fun c => V.str (S c) := by
          rw [cutV_L, cutL_to (by decide), List.take_of_length_le (by rw [List.length_map, hw]; decide)]
        show tRet (tSl (rSlL K) (tVar 1) tNoPart (tPart (tVar 0))) { nx := fun _ H' => Q .non H', rt := Q } [some (.int 31), some (.ref l), some (.int ((15 : Nat) : Int))] H2
        refine s_retL (xs := ws.map fun c => V.str (S c)) (by rw [← hcut]; exact el_sl (ev_var rfl) eo_none (eo_some (ev_var rfl)) (sq_of (e2 _ _ hl))) fun p H3 hp e3 h3 => ?_
        subst hws
        exact q p H3 (fresh_back (e.trans e2) hp) ((e.trans e2).trans e3) h3
      · have h15 : i < 15 := by
          have := of_decide_eq_false hb
          rw [List.length_map, hw] at this
          omega
        obtain ⟨s1, s2⟩ := lev_step i h15
        have hli := hlev i (by omega)
        have hl4 := lev_lt i
        refine q_app (e2 _ _ hl) (ev_var rfl) (ev_op (ev_op (ev_var rfl) (ev_var rfl) (rv_ixL (K := K) (sq_of (e2 _ _ hl)) (wlen rfl (by omega)))) (ev_is ev_c (congrArg V.str (S_tl "0").symm)) (rv_addS (by rw [hli]; show lev i + 1 ≤ 1000000; omega))) (by rw [List.length_map, hw]; omega) fun H3 e3 => ?_
        have x1 : (ws.map fun c => V.str (S c)) ++ [V.str (S (ws.getD i [] ++ ("0" : Str).cps.toList))] = (ws ++ [ws.getD i [] ++ ("0" : Str).cps.toList]).map fun c => V.str (S c) := by simp
        rw [x1]
        have hg : (ws ++ [ws.getD i [] ++ ("0" : Str).cps.toList]).getD i [] = ws.getD i [] := by
          rw [List.getD_eq_getElem?_getD, List.getElem?_append_left (by omega), ← List.getD_eq_getElem?_getD]
        have ha := wlen (ws := ws ++ [ws.getD i [] ++ ("0" : Str).cps.toList]) (i := i) rfl (by rw [List.length_append]; omega)
        rw [hg] at ha
        refine s_app upd_same (ev_var rfl) (ev_op (ev_op (ev_var rfl) (ev_var rfl) (rv_ixL (K := K) (sq_of upd_same) ha)) (ev_is ev_c (congrArg V.str (S_tl "1").symm)) (rv_addS (by rw [hli]; show lev i + 1 ≤ 1000000; omega))) (by rw [List.length_map, List.length_append, hw]; show 2 * i + 1 + 1 < 100000; omega) fun H4 e4 => ?_
        have x2 : ((ws ++ [ws.getD i [] ++ ("0" : Str).cps.toList]).map fun c => V.str (S c)) ++ [V.str (S (ws.getD i [] ++ ("1" : Str).cps.toList))] = (ws ++ [ws.getD i [] ++ ("0" : Str).cps.toList, ws.getD i [] ++ ("1" : Str).cps.toList]).map fun c => V.str (S c) := by simp
        rw [x2]
        refine ⟨_, _, by rw [hws]; rfl, rfl, Ex.mut ((Ex.mut ((e.trans e2).trans e3) nl).trans e4) nl, upd_same, by omega, by rw [List.length_append, hw]; show 2 * i + 1 + 2 = _; omega, fun k hk => ?_⟩
        by_cases h1' : k < 2 * i + 1
        · rw [List.getD_eq_getElem?_getD, List.getElem?_append_left (by omega), ← List.getD_eq_getElem?_getD]
          exact hlev k h1'
        · have hk2 : k = 2 * i + 1 ∨ k = 2 * i + 2 := by omega
          have hone : ("0" : Str).cps.toList.length = 1 ∧ ("1" : Str).cps.toList.length = 1 := by decide +kernel
          rcases hk2 with rfl | rfl
          · rw [List.getD_eq_getElem?_getD, List.getElem?_append_right (by omega), hw, s1, ← hli, Nat.sub_self]
            show (ws.getD i [] ++ ("0" : Str).cps.toList).length = _
            rw [List.length_append, hone.1]
          · rw [List.getD_eq_getElem?_getD, List.getElem?_append_right (by omega), hw, s2, ← hli, show 2 * i + 2 - (2 * i + 1) = 1 by omega]
            show (ws.getD i [] ++ ("1" : Str).cps.toList).length = _
            rw [List.length_append, hone.2]
    · rintro σ' H' ⟨ws, v, hws, rfl, e, hl, hi15, hw, hlev⟩
      exfalso
      have : ((31 : Int)).toNat = 31 := by decide
      omega

theorem Cm_le4 (e s : Nat) : ∀ k, Cm e s (k + 1) + 2 * s = e + s * 2 ^ (k + 1)
  | 0 => by show 0 + e + 2 * s = e + s * 2 ^ 1; omega
  | k + 1 => by
    have ih := Cm_le4 e s k
    have e : Cm e s (k + 2) = Cm e s (k + 1) + s * 2 ^ (k + 1) := rfl
    have h3 : s * 2 ^ (k + 2) = s * 2 ^ (k + 1) + s * 2 ^ (k + 1) := by rw [Nat.pow_succ 2 (k + 1), Nat.mul_comm _ 2, Nat.mul_left_comm]; omega
    show Cm _ s (k + 2) + 2 * s = _ + s * 2 ^ (k + 2)
    omega
theorem twice_pow (s i : Nat) : ((s * 2 ^ i : Nat) : Int) * 2 = ((s * 2 ^ (i + 1) : Nat) : Int) := by
  rw [Nat.pow_succ, ← Nat.mul_assoc, Int.natCast_mul (s * 2 ^ i)]
  rfl
abbrev s_law_rooms : Stmt := top 10
abbrev N_law_rooms : List Str := ["states", "lengths", "rooms", "here", "wide"]
theorem sc_law_rooms : FnScope N_law_rooms ["states", "lengths"] (defScope s_law_rooms) := ⟨rfl, rfl, rfl, by decide +kernel, rfl, by decide +kernel, by decide +kernel⟩
def spRooms : Sp := fun vs H Q _ => ∃ p m : Nat, vs = [.int (p : Int), .int (m : Int)] ∧ 1 ≤ p ∧ p ≤ 10000 ∧ m ≤ 1000 ∧ RetL (nV (roomL (eT p) (sT p) (m + 1))) H Q
theorem sl_rooms {p m : Nat} {H : Hp} (h1 : 1 ≤ p) (h2 : p ≤ 10000) (hm : m ≤ 1000) : SpL spRooms [.int (p : Int), .int (m : Int)] H (nV (roomL (eT p) (sT p) (m + 1))) := fun H1 e Q q _ => ⟨p, m, rfl, h1, h2, hm, fun p H2 hp e2 h2 => q p H2 hp e2 h2⟩
theorem ok_law_rooms (T : TT mg) (F : At K mg "_law_rooms" s_law_rooms) : Dn P w K mg base 1 "_law_rooms" s_law_rooms ["states", "lengths"] spRooms := by
  refine dn_ok F sc_law_rooms (fun _ _ _ _ _ _ us hl => match us, hl with | [_, _], _ => rfl) (fun vs H Q E h => ?_) (fun f cdv A outer t H vs Q E hr h => ?_)
  · obtain ⟨p, m, rfl, _⟩ := h; rfl
  · obtain ⟨p, m, rfl, h1, h2, hm, q⟩ := h
    refine ⟨_, (pss_cons (ps_set (i := 2) sc_law_rooms.nd rfl (Or.inl rfl) (pe_lst (pa_cons (pe_op op_fdiv (pe_op op_mul (pv 0) (pe_op op_sub (pv 0) pe_int)) pe_int) pa_nil)))
      (pss_cons (ps_set (i := 3) sc_law_rooms.nd rfl (Or.inl rfl) (pe_op op_mul (pv 0) (pv 0)))
      (pss_cons (ps_for PassesOwn.never rfl (pi_range1 (by rfl) T.range (pa_cons (pv 1) pa_nil)) (pg_name (i := 4) sc_law_rooms.nd rfl (Or.inl rfl))
        (pss_cons (ps_set (i := 3) sc_law_rooms.nd rfl (Or.inl rfl) (pe_op op_mul (pv 3) pe_int))
          (pss_one (ps_expr (pe_bm PySem.F.plainAttrs_list PySem.F.slot_list_append PySem.F.type_list_append mt_append (pv 2) (pa_cons (pv 3) pa_nil))))))
      (pss_one (ps_ret (pv 2)))))), ?_⟩
    refine q_asgL (xs := nV [eT p]) (el_lst (ea_cons (ev_is (ev_op (ev_op (ev_var rfl) (ev_op (ev_var rfl) ev_c rv_I0) (rv_I (pmul h2 _))) ev_c (rv_I (by unfold CDiv; decide))) (congrArg V.int (eT_cast h1))) ea_nil) (by show 1 ≤ 100000; decide)) fun l H1 nl e1 hl1 => ?_
    refine q_asg (ev_is (ev_op (ev_var rfl) (ev_var rfl) (rv_I (pmul h2 _))) (congrArg V.int (sT_cast p))) fun H2 e2 => ?_
    refine q_forR1 (ea_cons (ev_var rfl) ea_nil) ⟨by omega, by omega⟩ (fun i σ' H' => ∃ v : Option V, σ' = [some (.int (p : Int)), some (.int (m : Int)), some (.ref l), some (.int (sT p * 2 ^ i : Nat)), v] ∧ Ex H H' ∧ H' l = some (.lst (nV (roomL (eT p) (sT p) (i + 1)))))
      (fun H3 e3 => ⟨none, by rw [Nat.pow_zero, Nat.mul_one]; rfl, (e1.trans e2).trans e3, e3 _ _ (e2 _ _ hl1)⟩) ?_ ?_
    · rintro i σ' H' hi ⟨v, rfl, e, hl⟩
      refine q_asg (ev_is (ev_op (ev_var rfl) ev_c (rv_I (Or.inr (by decide)))) (congrArg V.int (twice_pow (sT p) i))) fun H4 e4 => ?_
      refine s_app (e4 _ _ hl) (ev_var rfl) (ev_var rfl) (by rw [nV_len, roomL_len]; omega) fun H3 e3 => ?_
      have er : Rm (eT p) (sT p) (i + 1) = sT p * 2 ^ (i + 1) := rfl
      rw [nV_app, ← er, ← roomL_succ]
      exact ⟨some (.int (i : Int)), rfl, Ex.mut ((e.trans e4).trans e3) nl, upd_same⟩
    · rintro σ' H' ⟨v, rfl, e, hl⟩
      have em : ((m : Nat) : Int).toNat = m := by omega
      rw [em] at hl
      exact s_ret (ev_var rfl) fun H3 e3 => q l H3 nl (e.trans e3) (e3 _ _ hl)
abbrev s_law_filled : Stmt := top 11
abbrev N_law_filled : List Str := ["states", "many", "total", "left", "here", "wide"]
theorem sc_law_filled : FnScope N_law_filled ["states", "many"] (defScope s_law_filled) := ⟨rfl, rfl, rfl, by decide +kernel, rfl, by decide +kernel, by decide +kernel⟩
theorem ok_law_filled (T : TT mg) (F : At K mg "_law_filled" s_law_filled) : Dn P w K mg base 1 "_law_filled" s_law_filled ["states", "many"] spTot := by
  refine dn_ok F sc_law_filled (fun _ _ _ _ _ _ us hl => match us, hl with | [_, _], _ => rfl) (fun vs H Q E h => ?_) (fun f cdv A outer t H vs Q E hr h => ?_)
  · obtain ⟨p, c, rfl, _⟩ := h; rfl
  · obtain ⟨p, c, rfl, h1, h2, hc, q⟩ := h
    refine ⟨_, (pss_cons (ps_set (i := 2) sc_law_filled.nd rfl (Or.inl rfl) pe_int)
      (pss_cons (ps_set (i := 3) sc_law_filled.nd rfl (Or.inl rfl) (pe_op op_sub (pv 1) (pe_op op_fdiv (pe_op op_mul (pv 0) (pe_op op_sub (pv 0) pe_int)) pe_int)))
      (pss_cons (ps_set (i := 4) sc_law_filled.nd rfl (Or.inl rfl) (pe_op op_mul (pv 0) (pv 0)))
      (pss_cons (ps_for PassesOwn.never rfl (pi_range2 (by rfl) T.range (pa_cons pe_int (pa_cons pe_int pa_nil))) (pg_name (i := 5) sc_law_filled.nd rfl (Or.inl rfl))
        (pss_cons (ps_if (pt_cmpR op_le (pv 3) pe_int (nomark _)) (pss_one ps_break) pss_nil)
          (pss_cons (ps_set (i := 4) sc_law_filled.nd rfl (Or.inl rfl) (pe_op op_mul (pv 4) pe_int))
          (pss_cons (ps_set (i := 2) sc_law_filled.nd rfl (Or.inl rfl) (pe_op op_add (pv 2) (pe_op op_mul (pv 5) (pe_callB (call_min2 rfl) (by rfl) T.min (by decide +kernel) (pa_cons (pv 3) (pa_cons (pv 4) pa_nil))))))
          (pss_one (ps_set (i := 3) sc_law_filled.nd rfl (Or.inl rfl) (pe_op op_sub (pv 3) (pv 4))))))))
      (pss_one (ps_ret (pv 2))))))), ?_⟩
    have hsp := sT_pos h1
    refine q_asg ev_c fun H1 e1 => ?_
    refine q_asg (ev_op (ev_var rfl) (ev_is (ev_op (ev_op (ev_var rfl) (ev_op (ev_var rfl) ev_c rv_I0) (rv_I (pmul h2 _))) ev_c (rv_I (by unfold CDiv; decide))) (congrArg V.int (eT_cast h1))) rv_I0) fun H2 e2 => ?_
    refine q_asg (ev_is (ev_op (ev_var rfl) (ev_var rfl) (rv_I (pmul h2 _))) (congrArg V.int (sT_cast p))) fun H3 e3 => ?_
    have fin : ∀ (i tt : Nat) (v : Option V) (x y : V) (H' : Hp), c ≤ Cm (eT p) (sT p) i → tt + i * (c - Cm (eT p) (sT p) i) = Tm (eT p) (sT p) c i → Ex H H' →
        tRet (tVar 2) { nx := fun _ H' => Q .non H', rt := Q } [some (.int (p : Int)), some (.int (c : Int)), some (.int (tt : Int)), some x, some y, v] H' := by
      intro i tt v x y H' hle hinv e
      have ht : tt = totE (eT p) (sT p) c := by
        rw [← tot_is hsp hle, ← hinv, Nat.sub_eq_zero_of_le hle]
        omega
      subst ht
      exact s_ret (ev_var rfl) fun H2 e2 => q H2 (e.trans e2)
    refine q_forR2 (ea_cons ev_c (ea_cons ev_c ea_nil)) ⟨by decide, by decide, by decide, by decide⟩ (fun i σ' H' => ∃ (tt : Nat) (v : Option V), σ' = [some (.int (p : Int)), some (.int (c : Int)), some (.int (tt : Int)), some (.int ((c : Int) - (Cm (eT p) (sT p) (i + 1) : Nat))), some (.int (sT p * 2 ^ i : Nat)), v] ∧ Ex H H' ∧ tt + (i + 1) * (c - Cm (eT p) (sT p) (i + 1)) = Tm (eT p) (sT p) c (i + 1))
      (fun H4 e4 => ⟨0, none, by
        have : Cm (eT p) (sT p) (0 + 1) = eT p := Nat.zero_add _
        rw [this, Nat.pow_zero, Nat.mul_one]
        rfl, ((e1.trans e2).trans e3).trans e4, by show 0 + (0 + 1) * (c - Cm (eT p) (sT p) (0 + 1)) = 0 + (c - Cm (eT p) (sT p) (0 + 1)); omega⟩) ?_ ?_
    · rintro i σ' H' hi ⟨tt, v, rfl, e, hinv⟩
      refine q_when (et_test (ev_op (ev_var rfl) ev_c rv_I0)) (fun hb H4 e4 => ?_) (fun hb H4 e4 => ?_)
      · have hle : c ≤ Cm (eT p) (sT p) (i + 1) := by
          have := of_decide_eq_true hb
          omega
        exact fin (i + 1) tt _ _ _ H4 hle hinv (e.trans e4)
      · have hlt : Cm (eT p) (sT p) (i + 1) < c := by
          have := of_decide_eq_false hb
          omega
        have el : (c : Int) - (Cm (eT p) (sT p) (i + 1) : Nat) = ((c - Cm (eT p) (sT p) (i + 1) : Nat) : Int) := by omega
        have hturn := tot_turn hinv
        have er : Rm (eT p) (sT p) (i + 1) = sT p * 2 ^ (i + 1) := rfl
        rw [el]
        refine q_asg (ev_is (ev_op (ev_var rfl) ev_c (rv_I (Or.inr (by decide)))) (congrArg V.int (twice_pow (sT p) i))) fun H7 e7 => ?_
        rw [← er]
        refine q_asg (ev_op (ev_var rfl) (ev_op (ev_var rfl) (ev_min2 (ev_var rfl) (ev_var rfl)) (rv_I (Or.inl (by omega)))) rv_I0) fun H5 e5 => ?_
        rw [min2_nat]
        refine s_asg (ev_op (ev_var rfl) (ev_var rfl) rv_I0) fun H6 e6 => ?_
        refine ⟨tt + (i + 1) * min (c - Cm (eT p) (sT p) (i + 1)) (Rm (eT p) (sT p) (i + 1)), some (.int ((1 : Int) + (i : Int))), ?_, (((e.trans e4).trans e7).trans e5).trans e6, hturn⟩
        have f1 : ((tt : Nat) : Int) + ((1 : Int) + (i : Int)) * ((min (c - Cm (eT p) (sT p) (i + 1)) (Rm (eT p) (sT p) (i + 1)) : Nat) : Int) = ((tt + (i + 1) * min (c - Cm (eT p) (sT p) (i + 1)) (Rm (eT p) (sT p) (i + 1)) : Nat) : Int) := by
          have e0 : (1 : Int) + (i : Int) = ((i + 1 : Nat) : Int) := by omega
          rw [e0, Int.natCast_add tt, Int.natCast_mul]
        have f2 : ((c - Cm (eT p) (sT p) (i + 1) : Nat) : Int) - ((Rm (eT p) (sT p) (i + 1) : Nat) : Int) = (c : Int) - (Cm (eT p) (sT p) (i + 1 + 1) : Nat) := by
          show _ = (c : Int) - ((Cm (eT p) (sT p) (i + 1) + Rm (eT p) (sT p) (i + 1) : Nat) : Int)
          omega
        rw [← f1, ← f2]
        rfl
    · rintro σ' H' ⟨tt, v, rfl, e, hinv⟩
      have e6 : ((600 : Int) - 1).toNat = 599 := by decide
      rw [e6] at hinv ⊢
      have hle : c ≤ Cm (eT p) (sT p) (599 + 1) := by
        have a := Cm_big (e := eT p) hsp (599 + 1)
        have b : Big + 2 ≤ 2 ^ (599 + 1) := by decide +kernel
        omega
      exact fin (599 + 1) tt _ _ _ H' hle hinv e
end
end My

set_option Elab.async false
set_option linter.all false
set_option maxRecDepth 100000
set_option maxHeartbeats 4000000
namespace My
open PySem PySem.Spec PyProof.Rows L2 Evl
section
variable {P : Program} {w : World} {K : PySem.W.Frag} {mg : Str → Option Value} {base : Heap}
abbrev s_law_tight : Stmt := top 13
abbrev N_law_tight : List Str := ["rooms", "uses", "gap", "k"]
theorem sc_law_tight : FnScope N_law_tight ["rooms", "uses"] (defScope s_law_tight) := ⟨rfl, rfl, rfl, by decide +kernel, rfl, by decide +kernel, by decide +kernel⟩
def spTight (K : PySem.W.Frag) : Sp := fun vs H Q _ => ∃ (a b : Addr) (rs us : List Nat), vs = [.ref a, .ref b] ∧ SqL K H a (nV rs) ∧ SqL K H b (nV us) ∧ us.length = rs.length ∧ rs.length ≤ 1000 ∧ RetV (.bl (tightF false rs us)) H Q
theorem sv_tight {a b : Addr} {rs us : List Nat} {H : Hp} (ha : SqL K H a (nV rs)) (hb : SqL K H b (nV us)) (hl : us.length = rs.length) (hm : rs.length ≤ 1000) : SpV (spTight K) [.ref a, .ref b] H (.bl (tightF false rs us)) := fun H1 e Q q _ => ⟨a, b, rs, us, rfl, ex_l e ha, ex_l e hb, hl, hm, q⟩
theorem ok_law_tight (T : TT mg) (F : At K mg "_law_tight" s_law_tight) : Dn P w K mg base 1 "_law_tight" s_law_tight ["rooms", "uses"] (spTight K) := by
  refine dn_ok F sc_law_tight (fun _ _ _ _ _ _ us hl => match us, hl with | [_, _], _ => rfl) (fun vs H Q E h => ?_) (fun f cdv A outer t H vs Q E hr h => ?_)
  · obtain ⟨a, b, rs, us, rfl, _⟩ := h; rfl
  · obtain ⟨a, b, rs, us, rfl, ha, hb, hl, hm, q⟩ := h
    refine ⟨_, (pss_cons (ps_set (i := 2) sc_law_tight.nd rfl (Or.inl rfl) pe_bl)
      (pss_cons (ps_for PassesOwn.never rfl (pi_range1 (by rfl) T.range (pa_cons (pe_callB call_len_seq (by rfl) T.len boot_len (pa_cons (pv 0) pa_nil)) pa_nil)) (pg_name (i := 3) sc_law_tight.nd rfl (Or.inl rfl))
        (pss_cons (ps_if (PW.pt (pw_and (pt_val (pv 2)) (pw_and1 (pt_cmpR op_gt (pe_ix ix_list (pv 1) (pv 3) (fun _ _ => rfl)) pe_int (nomark _))))) (pss_one (ps_ret pe_bl)) pss_nil)
          (pss_one (ps_if (pt_cmpR op_lt (pe_ix ix_list (pv 1) (pv 3) (fun _ _ => rfl)) (pe_ix ix_list (pv 0) (pv 3) (fun _ _ => rfl)) (nomark _)) (pss_one (ps_set (i := 2) sc_law_tight.nd rfl (Or.inl rfl) pe_bl)) pss_nil))))
      (pss_one (ps_ret pe_bl)))), ?_⟩
    refine q_asg ev_c fun H1 e1 => ?_
    refine q_forR1 (ea_cons (ev_len (ev_var rfl) (ex_l e1 ha)) ea_nil) ⟨by rw [nV_len]; omega, by rw [nV_len]; omega⟩ (fun i σ' H' => ∃ (g : Bool) (v : Option V), σ' = [some (.ref a), some (.ref b), some (.bl g), v] ∧ Ex H H' ∧ tightF false rs us = tightF g (rs.drop i) (us.drop i))
      (fun H2 e2 => ⟨false, none, rfl, e1.trans e2, rfl⟩) ?_ ?_
    · rintro i σ' H' hi ⟨g, v, rfl, e, hg⟩
      rw [nV_len] at hi
      rw [tight_at g (show i < rs.length by omega) (show i < us.length by omega)] at hg
      have hu := at_nV (l := us) (i := i) (by omega)
      have hr' := at_nV (l := rs) (i := i) (by omega)
      refine q_when (b := g && decide (((us.getD i 0 : Nat) : Int) > 0)) (et_and (et_B (ev_var rfl)) fun _ => et_test (ev_op (ev_op (ev_var rfl) (ev_var rfl) (rv_ixL (K := K) (ex_l e hb) hu)) ev_c rv_I0)) (fun hb2 H3 e3 => ?_) (fun hb2 H3 e3 => ?_)
      · rw [Bool.and_eq_true] at hb2
        have h0 := of_decide_eq_true hb2.2
        rw [if_pos ⟨hb2.1, by omega⟩] at hg
        rw [hg] at q
        exact s_ret ev_c fun H4 e4 => q H4 ((e.trans e3).trans e4)
      · have hn : ¬ (g = true ∧ 0 < us.getD i 0) := by
          rintro ⟨x, y⟩
          rw [x, Bool.true_and] at hb2
          have := of_decide_eq_false hb2
          omega
        rw [if_neg hn] at hg
        refine s_ifAsg (v := .bl (g || decide (us.getD i 0 < rs.getD i 0))) (et_test (ev_op (ev_op (ev_var rfl) (ev_var rfl) (rv_ixL (K := K) (ex_l (e.trans e3) hb) hu)) (ev_op (ev_var rfl) (ev_var rfl) (rv_ixL (K := K) (ex_l (e.trans e3) ha) hr')) rv_I0)) (fun hc => ?_) (fun hc => ?_) fun H4 e4 => ?_
        · have := of_decide_eq_true hc
          have h2 : us.getD i 0 < rs.getD i 0 := by omega
          rw [decide_eq_true h2, Bool.or_true]
          exact ev_c
        · have := of_decide_eq_false hc
          have h2 : ¬ us.getD i 0 < rs.getD i 0 := by omega
          rw [decide_eq_false h2, Bool.or_false]
          rfl
        · exact ⟨_, _, rfl, (e.trans e3).trans e4, hg⟩
    · rintro σ' H' ⟨g, v, rfl, e, hg⟩
      have en : (((nV rs).length : Nat) : Int).toNat = rs.length := by rw [nV_len]; omega
      rw [en, List.drop_length] at hg
      have : tightF g [] (us.drop rs.length) = true := by cases us.drop rs.length <;> rfl
      rw [this] at hg
      rw [hg] at q
      exact s_ret ev_c fun H4 e4 => q H4 (e.trans e4)
abbrev s_law_is_due : Stmt := top 14
abbrev N_law_is_due : List Str := ["states", "many", "due", "actual", "named"]
theorem sc_law_is_due : FnScope N_law_is_due ["states", "many", "due"] (defScope s_law_is_due) := ⟨rfl, rfl, rfl, by decide +kernel, rfl, by decide +kernel, by decide +kernel⟩
theorem kd_tot (D : Dn P w K mg base 2 "floor_bits" s_floor_bits ["standings", "count"] spTot) : Kd P w K mg base 2 "floor_bits" 0 ["count", "standings"] (fun _ zs => zs.reverse) spTot :=
  kd_of D 0 ["count", "standings"] (fun _ ws => ws.reverse) (fun _ zs => zs.reverse) (fun _ _ _ _ _ _ us ws h1 h2 => match us, ws, h1, h2 with | [], [_, _], _, _ => rfl) (fun _ r => vals_rev r)
def spDue : Sp := fun vs H Q _ => ∃ p c : Nat, vs = [.int (p : Int), .int (c : Int), .int (totE (eT p) (sT p) c : Nat)] ∧ 1 ≤ p ∧ p ≤ 10000 ∧ c ≤ Big ∧ RetV (.bl true) H Q
theorem sv_due {p c : Nat} {H : Hp} (h1 : 1 ≤ p) (h2 : p ≤ 10000) (hc : c ≤ Big) : SpV spDue [.int (p : Int), .int (c : Int), .int (totE (eT p) (sT p) c : Nat)] H (.bl true) := fun _ _ _ q _ => ⟨p, c, rfl, h1, h2, hc, q⟩
theorem ok_law_is_due (D_floor_bits : Dn P w K mg base 2 "floor_bits" s_floor_bits ["standings", "count"] spTot) (D_law_whole : Dn P w K mg base 1 "_law_whole" s_law_whole ["value"] spWhole) (D_floor_bits_count_standings : Kd P w K mg base 2 "floor_bits" 0 ["count", "standings"] (fun _ zs => zs.reverse) spTot)
    (T : TT mg) (F : At K mg "_law_is_due" s_law_is_due) : Dn P w K mg base 3 "_law_is_due" s_law_is_due ["states", "many", "due"] spDue := by
  refine dn_ok F sc_law_is_due (fun _ _ _ _ _ _ us hl => match us, hl with | [_, _, _], _ => rfl) (fun vs H Q E h => ?_) (fun f cdv A outer t H vs Q E hr h => ?_)
  · obtain ⟨p, c, rfl, _⟩ := h; rfl
  · obtain ⟨p, c, rfl, h1, h2, hc, q⟩ := h
    refine ⟨_, (pss_cons (ps_set (i := 3) sc_law_is_due.nd rfl (Or.inl rfl) (pe_dn D_floor_bits hr (by decide) rfl (pa_cons (pv 0) (pa_cons (pv 1) pa_nil))))
      (pss_cons (ps_set (i := 4) sc_law_is_due.nd rfl (Or.inl rfl) (pe_kd D_floor_bits_count_standings hr (by decide) rfl (pk_cons (pv 1) (pk_cons (pv 0) pk_nil))))
      (pss_one (ps_ret (pe_and (pe_dn D_law_whole hr (by decide) rfl (pa_cons (pv 3) pa_nil)) (pe_and (pe_cmpR op_eq (pv 3) (pv 2) (nomark _)) (pe_and (pe_dn D_law_whole hr (by decide) rfl (pa_cons (pv 4) pa_nil)) (pe_one (pe_cmpR op_eq (pv 4) (pv 2) (nomark _)))))))))), ?_⟩
    refine q_asg (ev_call (ea_cons (ev_var rfl) (ea_cons (ev_var rfl) ea_nil)) (sv_tot h1 h2 hc)) fun H1 e1 => ?_
    refine q_asg (ev_callN ea_nil (ea_cons (ev_var rfl) (ea_cons (ev_var rfl) ea_nil)) rfl rfl (sv_tot h1 h2 hc)) fun H2 e2 => ?_
    have heq : decide (V.int (totE (eT p) (sT p) c : Nat) = V.int (totE (eT p) (sT p) c : Nat)) = true := decide_eq_true rfl
    refine s_ret (v := .bl (true && (true && (true && true)))) (ev_andV (ev_call (ea_cons (ev_var rfl) ea_nil) sv_whole) fun _ => ev_andV (ev_is (ev_op (ev_var rfl) (ev_var rfl) (rv_eq rfl)) (congrArg V.bl heq)) fun _ => ev_andV (ev_call (ea_cons (ev_var rfl) ea_nil) sv_whole) fun _ => ev_is (ev_op (ev_var rfl) (ev_var rfl) (rv_eq rfl)) (congrArg V.bl heq)) fun H3 e3 => q H3 ((e1.trans e2).trans e3)
abbrev s_law_choice_holds : Stmt := top 15
abbrev N_law_choice_holds : List Str := ["states", "lengths", "uses", "tight", "actual", "used", "k"]
theorem sc_law_choice_holds : FnScope N_law_choice_holds ["states", "lengths", "uses", "tight"] (defScope s_law_choice_holds) := ⟨rfl, rfl, rfl, by decide +kernel, rfl, by decide +kernel, by decide +kernel⟩
def spChoice (K : PySem.W.Frag) : Sp := fun vs H Q _ => ∃ (s : Nat) (a b : Addr) (ls us : List Nat) (tg : Bool), vs = [.int (s : Int), .ref a, .ref b, .bl tg] ∧ SqL K H a (nV ls) ∧ SqL K H b (nV us) ∧ (1 ≤ s ∧ s ≤ 10000) ∧ us.length = ls.length ∧ us.length ≤ 1000 ∧ us.sum ≤ Big ∧ (∀ k, ls.getD k 0 ≤ 1000) ∧
  totE (eT s) (sT s) us.sum ≤ wsum ls us ∧ (totE (eT s) (sT s) us.sum = wsum ls us ↔ tg = true) ∧ RetV (.bl true) H Q
theorem sv_choice {s : Nat} {a b : Addr} {ls us : List Nat} {tg : Bool} {H : Hp} (ha : SqL K H a (nV ls)) (hb : SqL K H b (nV us)) (h1 : 1 ≤ s ∧ s ≤ 10000) (hl : us.length = ls.length) (hk : us.length ≤ 1000) (hB : us.sum ≤ Big) (hs : ∀ k, ls.getD k 0 ≤ 1000) (h2 : totE (eT s) (sT s) us.sum ≤ wsum ls us) (h3 : totE (eT s) (sT s) us.sum = wsum ls us ↔ tg = true) :
    SpV (spChoice K) [.int (s : Int), .ref a, .ref b, .bl tg] H (.bl true) := fun H1 e Q q _ => ⟨s, a, b, ls, us, tg, rfl, ex_l e ha, ex_l e hb, h1, hl, hk, hB, hs, h2, h3, q⟩
theorem ok_law_choice_holds (D_floor_bits : Dn P w K mg base 2 "floor_bits" s_floor_bits ["standings", "count"] spTot) (D_law_whole : Dn P w K mg base 1 "_law_whole" s_law_whole ["value"] spWhole)
    (T : TT mg) (F : At K mg "_law_choice_holds" s_law_choice_holds) : Dn P w K mg base 3 "_law_choice_holds" s_law_choice_holds ["states", "lengths", "uses", "tight"] (spChoice K) := by
  refine dn_ok F sc_law_choice_holds (fun _ _ _ _ _ _ us hl => match us, hl with | [_, _, _, _], _ => rfl) (fun vs H Q E h => ?_) (fun f cdv A outer t H vs Q E hr h => ?_)
  · obtain ⟨s, a, b, ls, us, tg, rfl, _⟩ := h; rfl
  · obtain ⟨s, a, b, ls, us, tg, rfl, ha, hb, h1, hlen, hk, hbig, hsm, hle, htg, q⟩ := h
    refine ⟨_, (pss_cons (ps_set (i := 4) sc_law_choice_holds.nd rfl (Or.inl rfl) (pe_dn D_floor_bits hr (by decide) rfl (pa_cons (pv 0) (pa_cons (pe_callB (cr_sum rfl) (by rfl) T.sum (by decide +kernel) (pa_cons (pv 2) pa_nil)) pa_nil))))
      (pss_cons (ps_set (i := 5) sc_law_choice_holds.nd rfl (Or.inl rfl) (pe_callB (cr_sum rfl) (by rfl) T.sum (by decide +kernel) (pa_cons (pe_lc (te := tOp (rI CMul fun i j => .int (i * j)) (tOp (rIxL K) (tVar 1) (tVar 6)) (tOp (rIxL K) (tVar 2) (tVar 6))) (own := [("k", 6)]) (g := gName 6) (tt := tYes) rfl sc_law_choice_holds.nd (pi_range1 (by rfl) T.range (pa_cons (pe_callB call_len_seq (by rfl) T.len boot_len (pa_cons (pv 2) pa_nil)) pa_nil)) (blkOk_by (own := [("k", 6)]) (N := N_law_choice_holds) (sc := defScope s_law_choice_holds) (by decide +kernel)) (fun _ _ _ _ _ => pg_name (i := 6) sc_law_choice_holds.nd rfl (Or.inl rfl)) (fun _ _ _ _ _ => pts_nil) (fun _ _ _ _ _ => (pe_op op_mul (pe_ix ix_list (pv 1) (pv 6) (fun _ _ => rfl)) (pe_ix ix_list (pv 2) (pv 6) (fun _ _ => rfl))))) pa_nil)))
      (pss_one (ps_ret (pe_and (pe_dn D_law_whole hr (by decide) rfl (pa_cons (pv 4) pa_nil)) (pe_and (pe_cmpR op_le (pv 4) (pv 5) (nomark _)) (pe_one (pe_cmpR op_eq (pe_cmpR op_eq (pv 4) (pv 5) (nomark _)) (pv 3) (nomark _))))))))), ?_⟩
    have hb2 : SqL K H b ((nI us).map V.int) := by rw [← nV_nI]; exact hb
    refine q_asg (ev_call (ea_cons (ev_var rfl) (ea_cons (ev_is (ev_sumR (K := K) (ev_var rfl) hb2) (congrArg V.int (sum_nI us))) ea_nil)) (sv_tot h1.1 h1.2 hbig)) fun H1 e1 => ?_
    have hw : (nI ((List.range us.length).map fun k => ls.getD k 0 * us.getD k 0)).sum = ((wsum ls us : Nat) : Int) := by rw [sum_nI]; rfl
    refine q_asg (v := .int (wsum ls us : Nat)) (by
      rw [← hw]
      refine ev_sum (K := K) ?_
      rw [← given_nat]
      have en : (((nV us).length : Nat) : Int).toNat = us.length := by rw [nV_len]; omega
      rw [← en]
      refine el_lcR1 (fun _ => true) _ (ea_cons (ev_len (K := K) (ev_var rfl) (ex_l e1 hb)) ea_nil) ⟨by rw [nV_len]; omega, by rw [nV_len]; omega⟩ (fun _ => rfl) (fun i H2 e2 hi => et_yes) (fun i H2 e2 hi _ => ?_)
      rw [nV_len] at hi
      have hlk := hsm i
      have hz : ((ls.getD i 0 : Nat) : Int) < 2 ^ 64 ∧ -(2 ^ 64) < ((ls.getD i 0 : Nat) : Int) := by
        constructor
        · have : (1000 : Int) < 2 ^ 64 := by decide
          omega
        · have : -(2 ^ 64 : Int) < 0 := by decide
          omega
      rw [Int.natCast_mul]
      exact ev_op (ev_op (ev_var rfl) (ev_var rfl) (rv_ixL (K := K) (ex_l (e1.trans e2) ha) (at_nV (by omega)))) (ev_op (ev_var rfl) (ev_var rfl) (rv_ixL (K := K) (ex_l (e1.trans e2) hb) (at_nV (by omega)))) (rv_I (Or.inl ⟨hz.2, hz.1⟩))) fun H2 e2 => ?_
    have hle2 : decide (((totE (eT s) (sT s) us.sum : Nat) : Int) ≤ ((wsum ls us : Nat) : Int)) = true := decide_eq_true (by omega)
    have heq : decide (V.bl (decide (V.int (totE (eT s) (sT s) us.sum : Nat) = V.int (wsum ls us : Nat))) = V.bl tg) = true := by
      refine decide_eq_true (congrArg V.bl ?_)
      by_cases hz : totE (eT s) (sT s) us.sum = wsum ls us
      · rw [htg.mp hz, hz]
        exact decide_eq_true rfl
      · have hf : tg = false := by
          cases tg with
          | false => rfl
          | true => exact absurd (htg.mpr rfl) hz
        rw [hf]
        refine decide_eq_false fun he => hz ?_
        have := V.int.inj he
        omega
    exact s_ret (v := .bl (true && (true && true))) (ev_andV (ev_call (ea_cons (ev_var rfl) ea_nil) sv_whole) fun _ => ev_andV (ev_is (ev_op (ev_var rfl) (ev_var rfl) rv_I0) (congrArg V.bl hle2)) fun _ => ev_is (ev_op (ev_op (ev_var rfl) (ev_var rfl) (rv_eq rfl)) (ev_var rfl) (rv_eq rfl)) (congrArg V.bl heq)) fun H3 e3 => q H3 ((e1.trans e2).trans e3)
end
end My

set_option Elab.async false
set_option linter.all false
set_option maxRecDepth 100000
set_option maxHeartbeats 4000000
namespace My
open PySem PySem.Spec PyProof.Rows L2 Evl

def SZ : List Int := [2, 140, 1000000000, 140, 140, 1000000000, 3, 140, 140, 1000000000, 3] ++ List.replicate 20 6 ++ List.replicate 20 1000000000
theorem getD_set (l : List Nat) (i j x : Nat) : (l.set i x).getD j 0 = if i = j ∧ i < l.length then x else l.getD j 0 := by
  rw [List.getD_eq_getElem?_getD, List.getElem?_set, List.getD_eq_getElem?_getD]
  by_cases h : i = j
  · subst h
    by_cases h2 : i < l.length
    · simp [h2]
    · simp [h2, List.getElem?_eq_none (Nat.le_of_not_lt h2)]
  · simp [h]
theorem part_at {ds : List Int} {i j : Nat} (h : i + j < ds.length) (hj : j < 4) : ((ds.drop i).take 4).getD j 0 = ds.getD (i + j) 0 := by
  rw [List.getD_eq_getElem?_getD, List.getElem?_take_of_lt hj, List.getElem?_drop, ← List.getD_eq_getElem?_getD]
theorem mn3_ok {a b c : Int} (ha : 0 ≤ a) (hb : 0 ≤ b) (hc : 0 ≤ c) : 0 ≤ mn3 a b c ∧ mn3 a b c ≤ a ∧ mn3 a b c ≤ b := by
  unfold mn3
  split <;> split <;> omega
theorem SZ_len : SZ.length = 51 := by decide
theorem SZ_six : ∀ j, j < 20 → SZ.getD (11 + j) 0 = 6 := by decide
section
variable {P : Program} {w : World} {K : PySem.W.Frag} {mg : Str → Option Value} {base : Heap}
abbrev s_law_uses : Stmt := top 12
abbrev N_law_uses : List Str := ["rooms", "row", "last", "uses", "turn", "k", "part", "one", "two", "free", "picked", "moved"]
theorem sc_law_uses : FnScope N_law_uses ["rooms", "row"] (defScope s_law_uses) := ⟨rfl, rfl, rfl, by decide +kernel, rfl, by decide +kernel, by decide +kernel⟩
def spUses (K : PySem.W.Frag) : Sp := fun vs H Q _ => ∃ (a b : Addr) (rs : List Nat) (ds : List Int), vs = [.ref a, .ref b] ∧ SqL K H a (nV rs) ∧ SqL K H b (ds.map V.int) ∧ 1 ≤ rs.length ∧ rs.length ≤ 1000 ∧ Within ds SZ ∧
  ∀ (us : List Nat) (p : Addr) (H2 : Hp), Bd rs us → H p = none → Ex H H2 → H2 p = some (.lst (nV us)) → Q (.ref p) H2
theorem ok_law_uses (T : TT mg) (F : At K mg "_law_uses" s_law_uses) : Dn P w K mg base 1 "_law_uses" s_law_uses ["rooms", "row"] (spUses K) := by
  refine dn_ok F sc_law_uses (fun _ _ _ _ _ _ us hl => match us, hl with | [_, _], _ => rfl) (fun vs H Q E h => ?_) (fun f cdv A outer t H vs Q E hr h => ?_)
  · obtain ⟨a, b, rs, ds, rfl, _⟩ := h; rfl
  · obtain ⟨a, b, rs, ds, rfl, ha, hb, h1, hm, hW, q⟩ := h
    refine ⟨_, (pss_cons (ps_if (pt_cmpR op_eq (pe_ix ix_list (pv 1) pe_int (fun _ _ => rfl)) pe_int (nomark _)) (pss_cons (ps_set (i := 3) sc_law_uses.nd rfl (Or.inl rfl) (pe_lst pa_nil))
        (pss_cons (ps_for PassesOwn.never rfl (pi_range1 (by rfl) T.range (pa_cons (pe_callB call_len_seq (by rfl) T.len boot_len (pa_cons (pv 0) pa_nil)) pa_nil)) (pg_name (i := 5) sc_law_uses.nd rfl (Or.inl rfl))
          (pss_cons (ps_set (i := 9) sc_law_uses.nd rfl (Or.inl rfl) (pe_op op_mod (pe_callTy call_int1 (by rfl) T.int_ (by decide +kernel) (pa_cons (pe_ix ix_list (pv 1) (pe_op op_add pe_int (pe_op op_mod (pv 5) pe_int)) (fun _ _ => rfl)) pa_nil)) (pe_op op_add (pe_ix ix_list (pv 0) (pv 5) (fun _ _ => rfl)) pe_int)))
            (pss_cons (ps_set (i := 10) sc_law_uses.nd rfl (Or.inl rfl) (pe_lst (pa_cons pe_int (pa_cons (pe_ix ix_list (pv 0) (pv 5) (fun _ _ => rfl)) (pa_cons (pe_callB (call_max2 rfl) (by rfl) T.max (by decide +kernel) (pa_cons pe_int (pa_cons (pe_op op_sub (pe_ix ix_list (pv 0) (pv 5) (fun _ _ => rfl)) pe_int) pa_nil))) (pa_cons (pe_callB (call_min2 rfl) (by rfl) T.min (by decide +kernel) (pa_cons pe_int (pa_cons (pe_ix ix_list (pv 0) (pv 5) (fun _ _ => rfl)) pa_nil))) (pa_cons (pv 9) (pa_cons (pe_op op_sub (pe_ix ix_list (pv 0) (pv 5) (fun _ _ => rfl)) (pv 9)) pa_nil))))))))
            (pss_one (ps_expr (pe_bm PySem.F.plainAttrs_list PySem.F.slot_list_append PySem.F.type_list_append mt_append (pv 3) (pa_cons (pe_ix ix_list (pv 10) (pe_ix ix_list (pv 1) (pe_op op_add pe_int (pe_op op_mod (pv 5) pe_int)) (fun _ _ => rfl)) (fun _ _ => rfl)) pa_nil)))))))
        (pss_one (ps_ret (pv 3))))) pss_nil)
      (pss_cons (ps_set (i := 2) sc_law_uses.nd rfl (Or.inr rfl) (pe_op op_mod (pe_callTy call_int1 (by rfl) T.int_ (by decide +kernel) (pa_cons (pe_ix ix_list (pv 1) pe_int (fun _ _ => rfl)) pa_nil)) (pe_callB call_len_seq (by rfl) T.len boot_len (pa_cons (pv 0) pa_nil))))
      (pss_cons (ps_setLc (te := tOp (rI CMul fun i j => .int (i * j)) (tOp (rIxL K) (tVar 0) (tVar 5)) (tCB rInt1 (tCons (tOp (rI0 fun i j => .bl (decide (i < j))) (tVar 5) (tVar 2)) tNil))) (i := 3) (own := [("k", 5)]) (g := gName 5) (tt := tYes) rfl sc_law_uses.nd rfl rfl (sw_true rfl rfl rfl (by decide +kernel)) (pi_range1 (by rfl) T.range (pa_cons (pe_callB call_len_seq (by rfl) T.len boot_len (pa_cons (pv 0) pa_nil)) pa_nil)) (blkOk_by (own := [("k", 5)]) (N := N_law_uses) (sc := defScope s_law_uses) (by decide +kernel)) (fun _ _ _ _ _ => pg_name (i := 5) sc_law_uses.nd rfl (Or.inl rfl)) (fun _ _ _ _ _ => pts_nil) (fun _ _ _ _ _ => (pe_op op_mul (pe_ix ix_list (pv 0) (pv 5) (fun _ _ => rfl)) (pe_callTy call_int1 (by rfl) T.int_ (by decide +kernel) (pa_cons (pe_cmpR op_lt (pv 5) (pv 2) (nomark _)) pa_nil)))))
      (pss_cons (ps_asg (pe_op op_mod (pe_callTy call_int1 (by rfl) T.int_ (by decide +kernel) (pa_cons (pe_ix ix_list (pv 1) pe_int (fun _ _ => rfl)) pa_nil)) (pe_op op_add (pe_ix ix_list (pv 0) (pv 2) (fun _ _ => rfl)) pe_int)) (pg_sub (pv 3) (pv 2) set_list))
      (pss_cons (ps_for PassesOwn.never rfl (pi_range1 (by rfl) T.range (pa_cons pe_int pa_nil)) (pg_name (i := 4) sc_law_uses.nd rfl (Or.inl rfl))
        (pss_cons (ps_set (i := 6) sc_law_uses.nd rfl (Or.inl rfl) (pe_slice sl_list (pv 1) (po_some (pe_op op_add pe_int (pe_op op_mul pe_int (pv 4)))) (po_some (pe_op op_add pe_int (pe_op op_mul pe_int (pv 4))))))
          (pss_cons (ps_set (i := 7) sc_law_uses.nd rfl (Or.inl rfl) (pe_op op_mod (pe_callTy call_int1 (by rfl) T.int_ (by decide +kernel) (pa_cons (pe_ix ix_list (pv 6) pe_int (fun _ _ => rfl)) pa_nil)) (pe_callB call_len_seq (by rfl) T.len boot_len (pa_cons (pv 0) pa_nil))))
          (pss_cons (ps_set (i := 8) sc_law_uses.nd rfl (Or.inl rfl) (pe_op op_mod (pe_callTy call_int1 (by rfl) T.int_ (by decide +kernel) (pa_cons (pe_ix ix_list (pv 6) pe_int (fun _ _ => rfl)) pa_nil)) (pe_callB call_len_seq (by rfl) T.len boot_len (pa_cons (pv 0) pa_nil))))
          (pss_one (ps_if (PW.pt (pw_and (pt_cmpR op_ne (pv 7) (pv 8) (nomark _)) (pw_and1 (pt_cmpR op_gt (pe_ix ix_list (pv 6) pe_int (fun _ _ => rfl)) pe_int (nomark _))))) (pss_cons (ps_set (i := 11) sc_law_uses.nd rfl (Or.inl rfl) (pe_callB (call_min3Nu rfl) (by rfl) T.min (by decide +kernel) (pa_cons (pe_ix ix_list (pv 3) (pv 7) (fun _ _ => rfl)) (pa_cons (pe_op op_sub (pe_ix ix_list (pv 0) (pv 8) (fun _ _ => rfl)) (pe_ix ix_list (pv 3) (pv 8) (fun _ _ => rfl))) (pa_cons (pe_op op_add pe_int (pe_ix ix_list (pv 6) pe_int (fun _ _ => rfl))) pa_nil)))))
            (pss_cons (ps_asg (pe_op op_sub (pe_ix ix_list (pv 3) (pv 7) (fun _ _ => rfl)) (pv 11)) (pg_sub (pv 3) (pv 7) set_list))
            (pss_one (ps_asg (pe_op op_add (pe_ix ix_list (pv 3) (pv 8) (fun _ _ => rfl)) (pv 11)) (pg_sub (pv 3) (pv 8) set_list))))) pss_nil))))))
      (pss_one (ps_ret (pv 3)))))))), ?_⟩
    have hdl : ds.length = 51 := by rw [hW.len, SZ_len]
    have hg : ∀ i, i < 51 → 0 ≤ ds.getD i 0 ∧ ds.getD i 0 < SZ.getD i 0 := fun i hi => hW.get i (by rw [SZ_len]; exact hi)
    have dat : ∀ i : Nat, i < 51 → atI (ds.map V.int) (i : Int) = some (.int (ds.getD i 0)) := fun i hi => at_d (by omega)
    have rat : ∀ i : Nat, i < rs.length → atI (nV rs) (i : Int) = some (.int (rs.getD i 0 : Nat)) := fun i hi => at_nV hi
    refine q_when (et_test (ev_op (ev_op (ev_var rfl) ev_c (rv_ixL (K := K) hb (dat 0 (by decide)))) ev_c (rv_eq rfl))) (fun hc H1 e1 => ?_) (fun hc H1 e1 => ?_)
    · refine q_asgL (el_lst ea_nil (by decide)) fun l H2 nl e2 h2 => ?_
      have e12 := e1.trans e2
      have nl0 : H l = none := fresh_back e1 nl
      refine q_forR1 (ea_cons (ev_len (K := K) (ev_var rfl) (ex_l e12 ha)) ea_nil) ⟨by rw [nV_len]; omega, by rw [nV_len]; omega⟩ (fun i σ' H' => ∃ (us : List Nat) (x y z : Option V), σ' = [some (.ref a), some (.ref b), none, some (.ref l), none, x, none, none, none, y, z, none] ∧ Ex H H' ∧ H' l = some (.lst (nV us)) ∧ us.length = i ∧ ∀ j, j < i → us.getD j 0 ≤ rs.getD j 0)
        (fun H3 e3 => ⟨[], none, none, none, rfl, e12.trans e3, e3 _ _ h2, rfl, fun j hj => absurd hj (Nat.not_lt_zero j)⟩) ?_ ?_
      · rintro i σ' H' hi ⟨us, x, y, z, rfl, e, hl, hul, hbd⟩
        rw [nV_len] at hi
        have hi' : i < rs.length := by omega
        have h20 : i % 20 < 20 := Nat.mod_lt _ (by decide)
        have ej1 : (31 : Int) + (i : Int) % 20 = ((31 + i % 20 : Nat) : Int) := by omega
        have ej2 : (11 : Int) + (i : Int) % 20 = ((11 + i % 20 : Nat) : Int) := by omega
        have d1 := dat (31 + i % 20) (by omega)
        have d2 := dat (11 + i % 20) (by omega)
        rw [← ej1] at d1
        rw [← ej2] at d2
        have g2 := hg (11 + i % 20) (by omega)
        rw [SZ_six _ h20] at g2
        have hr1 : (0 : Int) < (rs.getD i 0 : Nat) + 1 := by omega
        refine q_asg (ev_op (ev_int (ev_op (ev_var rfl) (ev_op ev_c (ev_op (ev_var rfl) ev_c (rv_I (by decide))) rv_I0) (rv_ixL (K := K) (ex_l e hb) d1))) (ev_op (ev_op (ev_var rfl) (ev_var rfl) (rv_ixL (K := K) (ex_l e ha) (rat i hi'))) ev_c rv_I0) (rv_I hr1)) fun H3 e3 => ?_
        have f0 := Int.emod_nonneg (ds.getD (31 + i % 20) 0) (show ((rs.getD i 0 : Nat) : Int) + 1 ≠ 0 by omega)
        have f1 := Int.emod_lt_of_pos (ds.getD (31 + i % 20) 0) hr1
        generalize hf : ds.getD (31 + i % 20) 0 % ((rs.getD i 0 : Nat) + 1 : Int) = fr at f0 f1 ⊢
        generalize hr : rs.getD i 0 = r at f0 f1 hr1 ⊢
        have rat' := rat i hi'
        rw [hr] at rat'
        refine q_asgL (xs := ([0, (r : Int), (if (r : Int) - 1 > 0 then (r : Int) - 1 else 0), (if (r : Int) < 1 then (r : Int) else 1), fr, (r : Int) - fr] : List Int).map V.int)
          (el_lst (ea_cons ev_c (ea_cons (ev_op (ev_var rfl) (ev_var rfl) (rv_ixL (K := K) (ex_l (e.trans e3) ha) rat')) (ea_cons (ev_max2 ev_c (ev_op (ev_op (ev_var rfl) (ev_var rfl) (rv_ixL (K := K) (ex_l (e.trans e3) ha) rat')) ev_c rv_I0)) (ea_cons (ev_min2 ev_c (ev_op (ev_var rfl) (ev_var rfl) (rv_ixL (K := K) (ex_l (e.trans e3) ha) rat'))) (ea_cons (ev_var rfl) (ea_cons (ev_op (ev_op (ev_var rfl) (ev_var rfl) (rv_ixL (K := K) (ex_l (e.trans e3) ha) rat')) (ev_var rfl) rv_I0) ea_nil)))))) (by show 6 ≤ 100000; decide)) fun pl H4 np e4 h4 => ?_
        obtain ⟨m, hm, m0, mr⟩ := at_ints (ns := [0, (r : Int), (if (r : Int) - 1 > 0 then (r : Int) - 1 else 0), (if (r : Int) < 1 then (r : Int) else 1), fr, (r : Int) - fr]) (i := ds.getD (11 + i % 20) 0) (fun z => 0 ≤ z ∧ z ≤ (r : Int)) (by
          intro n hn
          simp only [List.mem_cons, List.not_mem_nil, or_false] at hn
          rcases hn with rfl | rfl | rfl | rfl | rfl | rfl
          · omega
          · omega
          · split <;> omega
          · split <;> omega
          · omega
          · omega) g2.1 g2.2
        have e34 := (e.trans e3).trans e4
        refine s_app (e4 _ _ (e3 _ _ hl)) (ev_var rfl) (ev_op (ev_var rfl) (ev_op (ev_var rfl) (ev_op ev_c (ev_op (ev_var rfl) ev_c (rv_I (by decide))) rv_I0) (rv_ixL (K := K) (ex_l e34 hb) d2)) (rv_ixL (K := K) (sq_of h4) hm)) (by rw [nV_len]; omega) fun H5 e5 => ?_
        have em : m = ((m.toNat : Nat) : Int) := by omega
        rw [em, nV_app]
        refine ⟨us ++ [m.toNat], _, _, _, rfl, Ex.mut (e34.trans e5) nl0, upd_same, by rw [List.length_append, hul]; rfl, fun j hj => ?_⟩
        by_cases hji : j < i
        · rw [List.getD_eq_getElem?_getD, List.getElem?_append_left (by omega), ← List.getD_eq_getElem?_getD]
          exact hbd j hji
        · have : j = i := by omega
          subst this
          rw [List.getD_eq_getElem?_getD, List.getElem?_append_right (by omega), hul, Nat.sub_self, hr]
          show m.toNat ≤ r
          omega
      · rintro σ' H' ⟨us, x, y, z, rfl, e, hl, hul, hbd⟩
        have en : (((nV rs).length : Nat) : Int).toNat = rs.length := by rw [nV_len]; omega
        rw [en] at hul hbd
        exact s_ret (ev_var rfl) fun H3 e3 => q us l H3 (Bd_of hul hbd) nl0 (e.trans e3) (e3 _ _ hl)
    · have hlp : (0 : Int) < (rs.length : Nat) := by omega
      have modl : ∀ z : Int, ∃ o : Nat, o < rs.length ∧ z % ((rs.length : Nat) : Int) = (o : Int) := fun z => by
        have a0 := Int.emod_nonneg z (show ((rs.length : Nat) : Int) ≠ 0 by omega)
        have a1 := Int.emod_lt_of_pos z hlp
        exact ⟨(z % ((rs.length : Nat) : Int)).toNat, by omega, by omega⟩
      obtain ⟨ln, hln, eln⟩ := modl (ds.getD 1 0)
      have hlenA : ∀ {H'}, Ex H H' → ∀ {σ' : L2.St}, σ'[0]? = some (some (.ref a)) → Ev (tCB (rLenS K) (tCons (tVar 0) tNil)) σ' H' (.int ((rs.length : Nat) : Int)) := by
        intro H' e σ' hs
        exact ev_is (ev_len (K := K) (ev_var hs) (ex_l e ha)) (by rw [nV_len])
      refine q_asg (ev_is (ev_op (ev_int (ev_op (ev_var rfl) ev_c (rv_ixL (K := K) (ex_l e1 hb) (dat 1 (by decide))))) (hlenA e1 rfl) (rv_I hlp)) (congrArg V.int eln)) fun H2 e2 => ?_
      have e12 := e1.trans e2
      refine q_asgL (xs := nV ((List.range rs.length).map fun k => rs.getD k 0 * (if k < ln then 1 else 0))) (by
        rw [nV_nI, ← given_nat]
        have en : ((rs.length : Nat) : Int).toNat = rs.length := by omega
        rw [← en]
        refine el_lcR1 (fun _ => true) _ (ea_cons (hlenA e12 rfl) ea_nil) ⟨by omega, by omega⟩ (fun _ => rfl) (fun i H3 e3 hi => et_yes) (fun i H3 e3 hi _ => ?_)
        have hi' : i < rs.length := by omega
        rw [Int.natCast_mul]
        have hcast : (((if i < ln then 1 else 0 : Nat)) : Int) = if decide ((i : Int) < (ln : Int)) = true then 1 else 0 := by
          by_cases hz : i < ln
          · rw [if_pos hz, if_pos (decide_eq_true (by omega))]; rfl
          · rw [if_neg hz, if_neg (by rw [decide_eq_true_eq]; omega)]; rfl
        rw [hcast]
        exact ev_op (ev_op (ev_var rfl) (ev_var rfl) (rv_ixL (K := K) (ex_l (e12.trans e3) ha) (rat i hi'))) (ev_intB (ev_op (ev_var rfl) (ev_var rfl) rv_I0)) (rv_I (Or.inr (by split <;> decide)))) fun l H3 nl e3 h3 => ?_
      have e13 := e12.trans e3
      have nl0 : H l = none := fresh_back e12 nl
      generalize hu0 : ((List.range rs.length).map fun k => rs.getD k 0 * (if k < ln then 1 else 0)) = u0 at h3
      have hu0l : u0.length = rs.length := by rw [← hu0]; simp
      have hu0b : ∀ k, k < rs.length → u0.getD k 0 ≤ rs.getD k 0 := fun k hk => by
        rw [← hu0, List.getD_eq_getElem?_getD, List.getElem?_map, List.getElem?_range hk]
        show rs.getD k 0 * (if k < ln then 1 else 0) ≤ _
        split <;> omega
      have hr1 : (0 : Int) < (rs.getD ln 0 : Nat) + 1 := by omega
      have f0 := Int.emod_nonneg (ds.getD 2 0) (show ((rs.getD ln 0 : Nat) : Int) + 1 ≠ 0 by omega)
      have f1 := Int.emod_lt_of_pos (ds.getD 2 0) hr1
      have ef : ds.getD 2 0 % ((rs.getD ln 0 : Nat) + 1 : Int) = (((ds.getD 2 0 % ((rs.getD ln 0 : Nat) + 1 : Int)).toNat : Nat) : Int) := by omega
      generalize hfr : (ds.getD 2 0 % ((rs.getD ln 0 : Nat) + 1 : Int)).toNat = fr at ef
      refine q_setL (v := .int (fr : Int)) h3 (ev_is (ev_op (ev_int (ev_op (ev_var rfl) ev_c (rv_ixL (K := K) (ex_l e13 hb) (dat 2 (by decide))))) (ev_op (ev_op (ev_var rfl) (ev_var rfl) (rv_ixL (K := K) (ex_l e13 ha) (rat ln hln))) ev_c rv_I0) (rv_I hr1)) (congrArg V.int ef)) (ev_var rfl) (ev_var rfl) (by rw [nV_len]; omega) fun H4 e4 => ?_
      rw [nV_set]
      refine q_forR1 (ea_cons ev_c ea_nil) ⟨by decide, by decide⟩ (fun i σ' H' => ∃ (us : List Nat) (x1 x2 x3 x4 x5 : Option V), σ' = [some (.ref a), some (.ref b), some (.int (ln : Int)), some (.ref l), x1, none, x2, x3, x4, none, none, x5] ∧ Ex H H' ∧ H' l = some (.lst (nV us)) ∧ us.length = rs.length ∧ ∀ j, j < rs.length → us.getD j 0 ≤ rs.getD j 0)
        (fun H5 e5 => ⟨u0.set ln fr, none, none, none, none, none, rfl, (Ex.mut (e13.trans e4) nl0).trans e5, e5 _ _ upd_same, by rw [List.length_set, hu0l], fun j hj => by
          rw [getD_set]
          split
          · rename_i hz
            rw [← hz.1]
            omega
          · exact hu0b j hj⟩) ?_ ?_
      · rintro i σ' H' hi ⟨us, x1, x2, x3, x4, x5, rfl, e, hl, hul, hbd⟩
        have hi2 : i < 2 := by omega
        have ea : (3 : Int) + 4 * (i : Int) = ((3 + 4 * i : Nat) : Int) := by omega
        have eb : (7 : Int) + 4 * (i : Int) = ((3 + 4 * i + 4 : Nat) : Int) := by omega
        have hcut : cutV (ds.map V.int) (some (3 + 4 * (i : Int))) (some (7 + 4 * (i : Int))) = ((ds.drop (3 + 4 * i)).take 4).map V.int := by
          rw [cutV_L, cutL_map, ea, eb, cutL_mid (by omega) (by omega)]
          have t1 : ((3 + 4 * i : Nat) : Int).toNat = 3 + 4 * i := by omega
          have t2 : ((3 + 4 * i + 4 : Nat) : Int).toNat - ((3 + 4 * i : Nat) : Int).toNat = 4 := by omega
          rw [t2, t1]
        refine q_asgL (xs := ((ds.drop (3 + 4 * i)).take 4).map V.int) (by rw [← hcut]; exact el_sl (ev_var rfl) (eo_some (ev_op ev_c (ev_op ev_c (ev_var rfl) (rv_I (Or.inl (by decide)))) rv_I0)) (eo_some (ev_op ev_c (ev_op ev_c (ev_var rfl) (rv_I (Or.inl (by decide)))) rv_I0)) (ex_l e hb)) fun pt H5 np e5 h5 => ?_
        have hpl : ((ds.drop (3 + 4 * i)).take 4).length = 4 := by rw [List.length_take, List.length_drop, hdl]; omega
        have pat : ∀ j : Nat, j < 4 → atI (((ds.drop (3 + 4 * i)).take 4).map V.int) (j : Int) = some (.int (ds.getD (3 + 4 * i + j) 0)) := fun j hj => by
          rw [← part_at (by omega) hj]
          exact at_d (by omega)
        have e5' := e.trans e5
        obtain ⟨o, ho, eo⟩ := modl (ds.getD (3 + 4 * i + 0) 0)
        obtain ⟨w', hw, ew⟩ := modl (ds.getD (3 + 4 * i + 1) 0)
        refine q_asg (ev_is (ev_op (ev_int (ev_op (ev_var rfl) ev_c (rv_ixL (K := K) (sq_of h5) (pat 0 (by decide))))) (hlenA e5' rfl) (rv_I hlp)) (congrArg V.int eo)) fun H6 e6 => ?_
        refine q_asg (ev_is (ev_op (ev_int (ev_op (ev_var rfl) ev_c (rv_ixL (K := K) (sq_of (e6 _ _ h5)) (pat 1 (by decide))))) (hlenA (e5'.trans e6) rfl) (rv_I hlp)) (congrArg V.int ew)) fun H7 e7 => ?_
        have e57 := (e5'.trans e6).trans e7
        have h57 := e7 _ _ (e6 _ _ h5)
        have hl7 := e7 _ _ (e6 _ _ (e5 _ _ hl))
        refine s_when (et_and (et_test (ev_op (ev_var rfl) (ev_var rfl) (rv_ne rfl))) fun _ => et_test (ev_op (ev_op (ev_var rfl) ev_c (rv_ixL (K := K) (sq_of h57) (pat 3 (by decide)))) ev_c rv_I0)) (fun hb2 H8 e8 => ?_) (fun hb2 H8 e8 => ?_)
        · rw [Bool.and_eq_true] at hb2
          have hne : o ≠ w' := fun hz => by
            have := hb2.1
            rw [hz, decide_eq_true rfl] at this
            exact absurd this (by decide)
          have e58 := e57.trans e8
          have p2 := (hg (3 + 4 * i + 2) (by omega)).1
          have uo := hbd o ho
          have uw := hbd w' hw
          obtain ⟨n0, na, nb⟩ := mn3_ok (a := ((us.getD o 0 : Nat) : Int)) (b := ((rs.getD w' 0 : Nat) : Int) - ((us.getD w' 0 : Nat) : Int)) (c := 1 + ds.getD (3 + 4 * i + 2) 0) (by omega) (by omega) (by omega)
          refine q_asg (ev_min3 (ev_op (ev_var rfl) (ev_var rfl) (rv_ixL (K := K) (sq_of (e8 _ _ hl7)) (at_nV (by omega)))) (ev_op (ev_op (ev_var rfl) (ev_var rfl) (rv_ixL (K := K) (ex_l e58 ha) (rat w' hw))) (ev_op (ev_var rfl) (ev_var rfl) (rv_ixL (K := K) (sq_of (e8 _ _ hl7)) (at_nV (by omega)))) rv_I0) (ev_op ev_c (ev_op (ev_var rfl) ev_c (rv_ixL (K := K) (sq_of (e8 _ _ h57)) (pat 2 (by decide)))) rv_I0)) fun H9 e9 => ?_
          generalize hmv : mn3 ((us.getD o 0 : Nat) : Int) (((rs.getD w' 0 : Nat) : Int) - ((us.getD w' 0 : Nat) : Int)) (1 + ds.getD (3 + 4 * i + 2) 0) = mv at n0 na nb ⊢
          have hl9 := e9 _ _ (e8 _ _ hl7)
          have v1 : ((us.getD o 0 : Nat) : Int) - mv = ((us.getD o 0 - mv.toNat : Nat) : Int) := by omega
          refine q_setL (v := .int ((us.getD o 0 - mv.toNat : Nat) : Int)) hl9 (ev_is (ev_op (ev_op (ev_var rfl) (ev_var rfl) (rv_ixL (K := K) (sq_of hl9) (at_nV (by omega)))) (ev_var rfl) rv_I0) (congrArg V.int v1)) (ev_var rfl) (ev_var rfl) (by rw [nV_len]; omega) fun H10 e10 => ?_
          rw [nV_set]
          have hsw : (us.set o (us.getD o 0 - mv.toNat)).getD w' 0 = us.getD w' 0 := by rw [getD_set, if_neg (fun hz => hne hz.1)]
          have hat := at_nV (l := us.set o (us.getD o 0 - mv.toNat)) (i := w') (by rw [List.length_set]; omega)
          rw [hsw] at hat
          have v2 : ((us.getD w' 0 : Nat) : Int) + mv = ((us.getD w' 0 + mv.toNat : Nat) : Int) := by omega
          refine s_setL (v := .int ((us.getD w' 0 + mv.toNat : Nat) : Int)) upd_same (ev_is (ev_op (ev_op (ev_var rfl) (ev_var rfl) (rv_ixL (K := K) (sq_of upd_same) hat)) (ev_var rfl) rv_I0) (congrArg V.int v2)) (ev_var rfl) (ev_var rfl) (by rw [nV_len, List.length_set]; omega) fun H11 e11 => ?_
          rw [nV_set]
          refine ⟨_, _, _, _, _, _, rfl, Ex.mut ((Ex.mut ((e58.trans e9).trans e10) nl0).trans e11) nl0, upd_same, by rw [List.length_set, List.length_set, hul], fun j hj => ?_⟩
          rw [getD_set, getD_set]
          split
          · rename_i hz
            rw [← hz.1]
            omega
          · split
            · rename_i hz
              rw [← hz.1]
              omega
            · exact hbd j hj
        · exact ⟨us, _, _, _, _, _, rfl, e57.trans e8, e8 _ _ hl7, hul, hbd⟩
      · rintro σ' H' ⟨us, x1, x2, x3, x4, x5, rfl, e, hl, hul, hbd⟩
        exact s_ret (ev_var rfl) fun H5 e5 => q us l H5 (Bd_of hul hbd) nl0 (e.trans e5) (e5 _ _ hl)
end
end My

set_option Elab.async false
set_option linter.all false
set_option maxRecDepth 100000
set_option maxHeartbeats 4000000
namespace My
open PySem PySem.Spec PyProof.Rows L2 Evl
open SX (S S_len S_cat S_beq S_beq_eq S_inj S_tl)

def SA : List Int := [6, 3600, 8, 76, 5, 4] ++ List.replicate 4 100000000
def SA2 : List Int := [8, 76, 5, 4] ++ List.replicate 4 100000000
theorem okSA : OkSizes SA := by unfold OkSizes; decide
theorem okS9 : OkSizes (5 :: SZ) := by unfold OkSizes; decide
theorem okS131 : OkSizes (75 :: SZ) := by unfold OkSizes; decide
theorem wS_range : ∀ (k : Nat) (us : List Nat), wS k us = ((List.range us.length).map fun i => lev (k + i) * us.getD i 0).sum
  | _, [] => rfl
  | k, u :: us => by
    show lev k * u + wS (k + 1) us = _
    rw [wS_range (k + 1) us, List.length_cons, sum_range_succ]
    congr 2
    refine List.map_congr_left fun i _ => ?_
    rw [show k + 1 + i = k + (i + 1) by omega]
    rfl
theorem lenS_range : ∀ (k : Nat) (us : List Nat), lenS k us = ((List.range us.length).map fun i => (k + i) * us.getD i 0).sum
  | _, [] => rfl
  | k, u :: us => by
    show k * u + lenS (k + 1) us = _
    rw [lenS_range (k + 1) us, List.length_cons, sum_range_succ]
    congr 2
    refine List.map_congr_left fun i _ => ?_
    rw [show k + 1 + i = k + (i + 1) by omega]
    rfl
def LV : List Nat := (List.range 31).map lev
theorem LV_at (i : Nat) (h : i < 31) : LV.getD i 0 = lev i := by
  unfold LV
  rw [List.getD_eq_getElem?_getD, List.getElem?_map, List.getElem?_range h]
  rfl
theorem LV_small (i : Nat) : LV.getD i 0 ≤ 1000 := by
  by_cases h : i < 31
  · rw [LV_at i h]
    have := lev_lt i
    omega
  · rw [List.getD_eq_getElem?_getD, List.getElem?_eq_none (by show (((List.range 31).map lev).length) ≤ i; rw [List.length_map, List.length_range]; omega)]
    exact Nat.zero_le _
theorem wsum_lev {us : List Nat} (h : us.length = 31) : wsum LV us = wS 0 us := by
  rw [wS_range]
  unfold wsum
  congr 1
  refine List.map_congr_left fun i hi => ?_
  have := List.mem_range.mp hi
  rw [LV_at i (by omega), Nat.zero_add]
theorem range_at {m i : Nat} (h : i < m) : (List.range m).getD i 0 = i := by
  rw [List.getD_eq_getElem?_getD, List.getElem?_range h]
  rfl
theorem wsum_len {us : List Nat} {m : Nat} (h : us.length = m) : wsum (List.range m) us = lenS 0 us := by
  rw [lenS_range]
  unfold wsum
  congr 1
  refine List.map_congr_left fun i hi => ?_
  have := List.mem_range.mp hi
  rw [range_at (by omega), Nat.zero_add]
theorem range_small {m : Nat} (hm : m ≤ 1000) (i : Nat) : (List.range m).getD i 0 ≤ 1000 := by
  by_cases h : i < m
  · rw [range_at h]; omega
  · rw [List.getD_eq_getElem?_getD, List.getElem?_eq_none (by rw [List.length_range]; omega)]
    exact Nat.zero_le _
theorem plain_sum (f : Nat → Nat) : ∀ n, ((List.range n).map f).sum = plainS f n
  | 0 => rfl
  | n + 1 => by rw [sum_range_last, plain_sum f n]; rfl
theorem plain_tot {e S n : Nat} (hs : 1 ≤ S) (hn : n ≤ e + 30 * S) : plainS (fun k => lev (1 + k / S)) (n - e) = totE e S n := by
  rw [plain_54 hs, ← tot_is (k := 5) hs (by simp [Cm, Rm]; omega)]
  simp [Tm, Cm, Rm]
  omega
theorem tot_bound {e s n : Nat} (hs : 1 ≤ s) (hn : n ≤ Big) : totE e s n < 2 ^ 1000 := by
  have h1 : n ≤ Cm e s 242 := by
    have a := Cm_big (e := e) hs 242
    have b : Big + 2 ≤ 2 ^ 242 := by decide +kernel
    omega
  have h2 : ∀ k, Tm e s n k ≤ k * n := by
    intro k
    induction k with
    | zero => exact Nat.le_of_eq (Nat.zero_mul n).symm
    | succ k ih =>
      show Tm e s n k + (n - _) ≤ (k + 1) * n
      rw [Nat.add_mul, Nat.one_mul]
      omega
  rw [← tot_is hs h1]
  have h3 := h2 242
  have h4 : 242 * Big < 2 ^ 1000 := by decide +kernel
  omega
/-- what the law makes of the 31 words: the least length that is not used up, the greatest that is used -/
theorem gap_facts {rs us : List Nat} {gap : Int} (hm : gap ∈ nI (((List.range 31).filter fun k => decide (us.getD k 0 < rs.getD k 0)).map lev) ++ [5]) (hl : ∀ y, y ∈ nI (((List.range 31).filter fun k => decide (us.getD k 0 < rs.getD k 0)).map lev) ++ [5] → gap ≤ y) :
    ∃ g : Nat, gap = (g : Int) ∧ g ≤ 5 ∧ ∀ L, L ≤ 5 → (L ≤ g ↔ ∀ k, k < 31 → us.getD k 0 < rs.getD k 0 → L ≤ lev k) := by
  have h5 := hl 5 (by simp)
  have h0 : 0 ≤ gap ∧ (gap = 5 ∨ ∃ k, k < 31 ∧ us.getD k 0 < rs.getD k 0 ∧ gap = (lev k : Nat)) := by
    rcases List.mem_append.mp hm with h | h
    · simp only [nI, List.map_map, List.mem_map, List.mem_filter, List.mem_range, decide_eq_true_eq, Function.comp] at h
      obtain ⟨k, ⟨k1, k2⟩, rfl⟩ := h
      exact ⟨by omega, Or.inr ⟨k, k1, k2, rfl⟩⟩
    · rw [List.mem_singleton] at h
      exact ⟨by omega, Or.inl h⟩
  refine ⟨gap.toNat, by omega, by omega, fun L hL => ⟨fun h k k1 k2 => ?_, fun h => ?_⟩⟩
  · have := hl (lev k : Nat) (List.mem_append_left _ (by
      simp only [nI, List.map_map, List.mem_map, List.mem_filter, List.mem_range, decide_eq_true_eq, Function.comp]
      exact ⟨k, ⟨k1, k2⟩, rfl⟩))
    omega
  · rcases h0.2 with h2 | ⟨k, k1, k2, h2⟩
    · omega
    · have := h k k1 k2
      omega
theorem long_facts {us : List Nat} {lg : Int} (hm : lg ∈ nI (((List.range 31).filter fun k => decide (0 < us.getD k 0)).map lev) ++ [0]) (hl : ∀ y, y ∈ nI (((List.range 31).filter fun k => decide (0 < us.getD k 0)).map lev) ++ [0] → y ≤ lg) :
    ∃ g : Nat, lg = (g : Int) ∧ g ≤ 4 ∧ ∀ L, 1 ≤ L → (g < L ↔ ∀ k, k < 31 → 0 < us.getD k 0 → lev k < L) := by
  have h5 := hl 0 (by simp)
  have h0 : lg = 0 ∨ ∃ k, k < 31 ∧ 0 < us.getD k 0 ∧ lg = (lev k : Nat) := by
    rcases List.mem_append.mp hm with h | h
    · simp only [nI, List.map_map, List.mem_map, List.mem_filter, List.mem_range, decide_eq_true_eq, Function.comp] at h
      obtain ⟨k, ⟨k1, k2⟩, rfl⟩ := h
      exact Or.inr ⟨k, k1, k2, rfl⟩
    · rw [List.mem_singleton] at h
      exact Or.inl h
  refine ⟨lg.toNat, by omega, ?_, fun L hL => ⟨fun h k k1 k2 => ?_, fun h => ?_⟩⟩
  · rcases h0 with h2 | ⟨k, k1, k2, h2⟩
    · omega
    · have := lev_lt k
      omega
  · have := hl (lev k : Nat) (List.mem_append_left _ (by
      simp only [nI, List.map_map, List.mem_map, List.mem_filter, List.mem_range, decide_eq_true_eq, Function.comp]
      exact ⟨k, ⟨k1, k2⟩, rfl⟩))
    omega
  · rcases h0 with h2 | ⟨k, k1, k2, h2⟩
    · omega
    · have := h k k1 k2
      omega
theorem given_some (n : Nat) (f : Nat → Bool) (g : Nat → Nat) (z : Int) : given n f (fun k => V.int ((g k : Nat) : Int)) ++ [V.int z] = (nI (((List.range n).filter f).map g) ++ [z]).map V.int := by
  unfold given
  simp [nI, List.map_map]
theorem sum_le_rep {s : Nat} : ∀ {n : Nat} {us : List Nat}, Bd (List.replicate n s) us → us.sum ≤ n * s
  | 0, [], _ => Nat.zero_le _
  | n + 1, u :: us, h => by
    have := sum_le_rep h.2
    have := h.1
    rw [List.sum_cons, Nat.add_mul, Nat.one_mul]
    omega
  | 0, _ :: _, h => h.elim
  | _ + 1, [], h => h.elim
theorem sum_le_31 {e s : Nat} : ∀ {us : List Nat}, Bd (e :: List.replicate 30 s) us → us.sum ≤ e + 30 * s
  | [], h => h.elim
  | u :: us, h => by
    have := sum_le_rep h.2
    have := h.1
    rw [List.sum_cons]
    omega
def T30 : Nat := 10 ^ 30
theorem T30_cap : T30 ≤ cap := by unfold T30 cap; omega
theorem c30 : CPow 10 30 := by unfold CPow; decide
theorem e30 : (10 : Int) ^ (Int.toNat 30) = (T30 : Int) := by decide
theorem rooms_small {p m : Nat} (hp : p ≤ 3600) (hm : m ≤ 75) : Cm (eT p) (sT p) (m + 1) + 10 ≤ T30 := by
  have h1 := Cm_le4 (eT p) (sT p) m
  have h2 : sT p ≤ 3600 * 3600 := Nat.mul_le_mul hp hp
  have h3 : sT p * 2 ^ (m + 1) ≤ 3600 * 3600 * 2 ^ 76 := Nat.mul_le_mul h2 (Nat.pow_le_pow_right (by decide) (by omega))
  have h4 : eT p ≤ 3600 * 3600 := by
    unfold eT
    have a : p * (p - 1) ≤ 3600 * 3600 := Nat.mul_le_mul hp (by omega)
    omega
  have h5 : 3600 * 3600 + 3600 * 3600 * 2 ^ 76 + 10 ≤ T30 := by decide +kernel
  omega
theorem within_drop2 {a b : Int} {ss ds : List Int} (h : Within ds (a :: b :: ss)) : Within (ds.drop 2) ss := by
  match ds, h with
  | _ :: _ :: _, h => exact h.2.2
  | [_], h => exact h.2.elim
theorem c50 : CPow 10 50 := by unfold CPow; decide
theorem e50 : (10 : Int) ^ (Int.toNat 50) = 100000000000000000000000000000000000000000000000000 := by decide
section
variable {P : Program} {w : World} {K : PySem.W.Frag} {mg : Str → Option Value} {base : Heap}
abbrev s_law_states : Stmt := top 16
abbrev N_law_states : List Str := ["row"]
theorem sc_law_states : FnScope N_law_states ["row"] (defScope s_law_states) := ⟨rfl, rfl, rfl, by decide +kernel, rfl, by decide +kernel, by decide +kernel⟩
def spStates (K : PySem.W.Frag) : Sp := fun vs H Q _ => ∃ (a : Addr) (ds : List Int), vs = [.ref a] ∧ SqL K H a (ds.map V.int) ∧ Within ds SA ∧ ∀ p : Nat, 1 ≤ p → p ≤ 3600 → RetV (.int (p : Int)) H Q
theorem ok_law_states (T : TT mg) (F : At K mg "_law_states" s_law_states) : Dn P w K mg base 1 "_law_states" s_law_states ["row"] (spStates K) := by
  refine dn_ok F sc_law_states (fun _ _ _ _ _ _ us hl => match us, hl with | [_], _ => rfl) (fun vs H Q E h => ?_) (fun f cdv A outer t H vs Q E hr h => ?_)
  · obtain ⟨a, ds, rfl, _⟩ := h; rfl
  · obtain ⟨a, ds, rfl, hS, hW, q⟩ := h
    refine ⟨_, (pss_cons (ps_if (pt_cmpR op_eq (pe_ix ix_list (pv 0) pe_int (fun _ _ => rfl)) pe_int (nomark _)) (pss_one (ps_ret pe_int)) pss_nil)
      (pss_cons (ps_if (pt_cmpR op_lt (pe_ix ix_list (pv 0) pe_int (fun _ _ => rfl)) pe_int (nomark _)) (pss_one (ps_ret (pe_op op_add pe_int (pe_op op_mod (pe_callTy call_int1 (by rfl) T.int_ (by decide +kernel) (pa_cons (pe_ix ix_list (pv 0) pe_int (fun _ _ => rfl)) pa_nil)) pe_int)))) pss_nil)
      (pss_one (ps_ret (pe_op op_add pe_int (pe_ix ix_list (pv 0) pe_int (fun _ _ => rfl))))))), ?_⟩
    have hdl : ds.length = 10 := hW.len
    have dat : ∀ i : Nat, i < 10 → atI (ds.map V.int) (i : Int) = some (.int (ds.getD i 0)) := fun i hi => at_d (by omega)
    obtain ⟨b0, b1⟩ := hW.get 1 (by decide)
    have b1' : ds.getD 1 0 < 3600 := b1
    refine q_when (et_test (ev_op (ev_op (ev_var rfl) ev_c (rv_ixL (K := K) hS (dat 0 (by decide)))) ev_c (rv_eq rfl))) (fun hb H1 e1 => ?_) (fun hb H1 e1 => ?_)
    · exact s_ret ev_c fun H2 e2 => q 1 (by decide) (by decide) H2 (e1.trans e2)
    refine q_when (et_test (ev_op (ev_op (ev_var rfl) ev_c (rv_ixL (K := K) (ex_l e1 hS) (dat 0 (by decide)))) ev_c rv_I0)) (fun hb H2 e2 => ?_) (fun hb H2 e2 => ?_)
    · have m0 := Int.emod_nonneg (ds.getD 1 0) (show (7 : Int) ≠ 0 by decide)
      have m1 := Int.emod_lt_of_pos (ds.getD 1 0) (show (0 : Int) < 7 by decide)
      have em : 1 + ds.getD 1 0 % 7 = (((1 + ds.getD 1 0 % 7).toNat : Nat) : Int) := by omega
      exact s_ret (ev_is (ev_op ev_c (ev_op (ev_int (ev_op (ev_var rfl) ev_c (rv_ixL (K := K) (ex_l (e1.trans e2) hS) (dat 1 (by decide))))) ev_c (rv_I (by decide))) rv_I0) (congrArg V.int em)) fun H3 e3 => q _ (by omega) (by omega) H3 ((e1.trans e2).trans e3)
    · have em : 1 + ds.getD 1 0 = (((1 + ds.getD 1 0).toNat : Nat) : Int) := by omega
      exact s_ret (ev_is (ev_op ev_c (ev_op (ev_var rfl) ev_c (rv_ixL (K := K) (ex_l (e1.trans e2) hS) (dat 1 (by decide)))) rv_I0) (congrArg V.int em)) fun H3 e3 => q _ (by omega) (by omega) H3 ((e1.trans e2).trans e3)
abbrev s_law_asked : Stmt := top 17
abbrev N_law_asked : List Str := ["row", "states", "many", "k"]
theorem sc_law_asked : FnScope N_law_asked ["row", "states"] (defScope s_law_asked) := ⟨rfl, rfl, rfl, by decide +kernel, rfl, by decide +kernel, by decide +kernel⟩
def spAsked (K : PySem.W.Frag) : Sp := fun vs H Q _ => ∃ (a : Addr) (ds : List Int) (s : Nat), vs = [.ref a, .int (s : Int)] ∧ SqL K H a (ds.map V.int) ∧ Within ds SA2 ∧ 1 ≤ s ∧ s ≤ 3600 ∧ ∀ n : Nat, n ≤ T30 → RetV (.int (n : Int)) H Q
theorem ok_law_asked (D_law_rooms : Dn P w K mg base 1 "_law_rooms" s_law_rooms ["states", "lengths"] spRooms) (T : TT mg) (F : At K mg "_law_asked" s_law_asked) : Dn P w K mg base 2 "_law_asked" s_law_asked ["row", "states"] (spAsked K) := by
  refine dn_ok F sc_law_asked (fun _ _ _ _ _ _ us hl => match us, hl with | [_, _], _ => rfl) (fun vs H Q E h => ?_) (fun f cdv A outer t H vs Q E hr h => ?_)
  · obtain ⟨a, ds, s, rfl, _⟩ := h; rfl
  · obtain ⟨a, ds, s, rfl, hS, hW, h1, h8, q⟩ := h
    refine ⟨_, (pss_cons (ps_if (pt_cmpR op_lt (pe_ix ix_list (pv 0) pe_int (fun _ _ => rfl)) pe_int (nomark _)) (pss_one (ps_ret (pe_op op_mod (pe_callTy call_int1 (by rfl) T.int_ (by decide +kernel) (pa_cons (pe_ix ix_list (pv 0) pe_int (fun _ _ => rfl)) pa_nil)) pe_int))) pss_nil)
      (pss_cons (ps_if (pt_cmpR op_lt (pe_ix ix_list (pv 0) pe_int (fun _ _ => rfl)) pe_int (nomark _)) (pss_one (ps_ret (pe_callB (call_max2 rfl) (by rfl) T.max (by decide +kernel) (pa_cons pe_int (pa_cons (pe_op op_sub (pe_op op_add (pe_callB (cr_sum rfl) (by rfl) T.sum (by decide +kernel) (pa_cons (pe_dn D_law_rooms hr (by decide) rfl (pa_cons (pv 1) (pa_cons (pe_ix ix_list (pv 0) pe_int (fun _ _ => rfl)) pa_nil))) pa_nil)) (pe_ix ix_list (pv 0) pe_int (fun _ _ => rfl))) pe_int) pa_nil))))) pss_nil)
      (pss_cons (ps_set (i := 2) sc_law_asked.nd rfl (Or.inl rfl) pe_int)
      (pss_cons (ps_for PassesOwn.never rfl (pi_range1 (by rfl) T.range (pa_cons (pe_op op_add pe_int (pe_ix ix_list (pv 0) pe_int (fun _ _ => rfl))) pa_nil)) (pg_name (i := 3) sc_law_asked.nd rfl (Or.inl rfl))
        (pss_one (ps_set (i := 2) sc_law_asked.nd rfl (Or.inl rfl) (pe_op op_add (pe_op op_mul (pv 2) pe_int) (pe_ix ix_list (pv 0) (pe_op op_add pe_int (pv 3)) (fun _ _ => rfl))))))
      (pss_one (ps_ret (pe_op op_mod (pe_callTy call_int1 (by rfl) T.int_ (by decide +kernel) (pa_cons (pv 2) pa_nil)) (pe_op op_add (pe_op op_pow pe_int pe_int) pe_int)))))))), ?_⟩
    have hdl : ds.length = 8 := hW.len
    have hg : ∀ i, i < 8 → 0 ≤ ds.getD i 0 ∧ ds.getD i 0 < SA2.getD i 0 := fun i hi => hW.get i hi
    have dat : ∀ i : Nat, i < 8 → atI (ds.map V.int) (i : Int) = some (.int (ds.getD i 0)) := fun i hi => at_d (by omega)
    refine q_when (et_test (ev_op (ev_op (ev_var rfl) ev_c (rv_ixL (K := K) hS (dat 0 (by decide)))) ev_c rv_I0)) (fun hb H1 e1 => ?_) (fun hb H1 e1 => ?_)
    · have m0 := Int.emod_nonneg (ds.getD 4 0) (show (300 : Int) ≠ 0 by decide)
      have m1 := Int.emod_lt_of_pos (ds.getD 4 0) (show (0 : Int) < 300 by decide)
      have em : ds.getD 4 0 % 300 = (((ds.getD 4 0 % 300).toNat : Nat) : Int) := by omega
      have hb2 : (300 : Nat) ≤ T30 := by decide +kernel
      refine s_ret (ev_is (ev_op (ev_int (ev_op (ev_var rfl) ev_c (rv_ixL (K := K) (ex_l e1 hS) (dat 4 (by decide))))) ev_c (rv_I (by decide))) (congrArg V.int em)) fun H2 e2 => q _ (by omega) H2 (e1.trans e2)
    refine q_when (et_test (ev_op (ev_op (ev_var rfl) ev_c (rv_ixL (K := K) (ex_l e1 hS) (dat 0 (by decide)))) ev_c rv_I0)) (fun hb H2 e2 => ?_) (fun hb H2 e2 => ?_)
    · obtain ⟨d0, d1⟩ := hg 1 (by decide)
      have d1' : ds.getD 1 0 < 76 := d1
      obtain ⟨f0, f1⟩ := hg 2 (by decide)
      have f1' : ds.getD 2 0 < 5 := f1
      have e12 := e1.trans e2
      have em : ds.getD 1 0 = (((ds.getD 1 0).toNat : Nat) : Int) := by omega
      generalize hmm : (ds.getD 1 0).toNat = m at em
      have hsum : (nI (roomL (eT s) (sT s) (m + 1))).sum = ((Cm (eT s) (sT s) (m + 1) : Nat) : Int) := by rw [sum_nI, roomL_sum]
      have hC := rooms_small (p := s) (m := m) h8 (by omega)
      have ev : (if ((Cm (eT s) (sT s) (m + 1) : Nat) : Int) + ds.getD 2 0 - 2 > 0 then ((Cm (eT s) (sT s) (m + 1) : Nat) : Int) + ds.getD 2 0 - 2 else 0) = (((((Cm (eT s) (sT s) (m + 1) : Nat) : Int) + ds.getD 2 0 - 2).toNat : Nat) : Int) := by split <;> omega
      refine s_ret (ev_is (ev_max2 ev_c (ev_op (ev_op (ev_is (ev_sum (K := K) (ns := nI (roomL (eT s) (sT s) (m + 1))) (by
        rw [← nV_nI]
        exact el_call (ea_cons (ev_var rfl) (ea_cons (ev_is (ev_op (ev_var rfl) ev_c (rv_ixL (K := K) (ex_l e12 hS) (dat 1 (by decide)))) (congrArg V.int em)) ea_nil)) (sl_rooms h1 (by omega) (by omega)))) (congrArg V.int hsum)) (ev_op (ev_var rfl) ev_c (rv_ixL (K := K) (ex_l e12 hS) (dat 2 (by decide)))) rv_I0) ev_c rv_I0)) (congrArg V.int ev)) fun H3 e3 => q _ (by omega) H3 (e12.trans e3)
    have e12 := e1.trans e2
    refine q_asg ev_c fun H3 e3 => ?_
    obtain ⟨d0, d1⟩ := hg 3 (by decide)
    have d1' : ds.getD 3 0 < 4 := d1
    refine q_forR1 (ea_cons (ev_op ev_c (ev_op (ev_var rfl) ev_c (rv_ixL (K := K) (ex_l (e12.trans e3) hS) (dat 3 (by decide)))) rv_I0) ea_nil) ⟨by omega, by omega⟩ (fun i σ' H' => ∃ (m : Int) (v : Option V), σ' = [some (.ref a), some (.int (s : Int)), some (.int m), v] ∧ Ex H H') (fun H4 e4 => ⟨0, none, rfl, (e12.trans e3).trans e4⟩) ?_ ?_
    · rintro i σ' H' hi ⟨m, v, rfl, e⟩
      have ei : (4 : Int) + (i : Int) = ((4 + i : Nat) : Int) := by omega
      have di := dat (4 + i) (by omega)
      rw [← ei] at di
      exact s_asg (ev_op (ev_op (ev_var rfl) ev_c (rv_I (Or.inr (by decide)))) (ev_op (ev_var rfl) (ev_op ev_c (ev_var rfl) rv_I0) (rv_ixL (K := K) (ex_l e hS) di)) rv_I0) fun H5 e5 => ⟨_, _, rfl, e.trans e5⟩
    · rintro σ' H' ⟨m, v, rfl, e⟩
      have hp : (0 : Int) < 10 ^ (Int.toNat 30) + 1 := by decide
      have m0 := Int.emod_nonneg m (show (10 : Int) ^ (Int.toNat 30) + 1 ≠ 0 by decide)
      have m1 := Int.emod_lt_of_pos m hp
      have hb2 : ((10 : Int) ^ (Int.toNat 30) + 1) ≤ ((T30 : Nat) : Int) + 1 := by decide +kernel
      have em : m % (10 ^ (Int.toNat 30) + 1) = (((m % (10 ^ (Int.toNat 30) + 1)).toNat : Nat) : Int) := by omega
      exact s_ret (ev_is (ev_op (ev_int (ev_var rfl)) (ev_op (ev_op ev_c ev_c (rv_I c30)) ev_c rv_I0) (rv_I hp)) (congrArg V.int em)) fun H5 e5 => q _ (by omega) H5 (e.trans e5)
abbrev s_law_one_standing_holds : Stmt := top 18
abbrev N_law_one_standing_holds : List Str := ["many", "actual"]
theorem sc_law_one_standing_holds : FnScope N_law_one_standing_holds ["many"] (defScope s_law_one_standing_holds) := ⟨rfl, rfl, rfl, by decide +kernel, rfl, by decide +kernel, by decide +kernel⟩
def spOne : Sp := fun vs H Q _ => ∃ c : Nat, vs = [.int (c : Int)] ∧ c ≤ T30 ∧ RetV (.bl true) H Q
theorem sv_one {c : Nat} {H : Hp} (hc : c ≤ T30) : SpV spOne [.int (c : Int)] H (.bl true) := fun _ _ _ q _ => ⟨c, rfl, hc, q⟩
theorem ok_law_one (D_shortest_total : Dn P w K mg base 1 "shortest_total" s_shortest_total ["size", "count"] spST) (D_law_whole : Dn P w K mg base 1 "_law_whole" s_law_whole ["value"] spWhole) (D_law_filled : Dn P w K mg base 1 "_law_filled" s_law_filled ["states", "many"] spTot) (D_law_is_due : Dn P w K mg base 3 "_law_is_due" s_law_is_due ["states", "many", "due"] spDue)
    (T : TT mg) (F : At K mg "_law_one_standing_holds" s_law_one_standing_holds) : Dn P w K mg base 4 "_law_one_standing_holds" s_law_one_standing_holds ["many"] spOne := by
  refine dn_ok F sc_law_one_standing_holds (fun _ _ _ _ _ _ us hl => match us, hl with | [_], _ => rfl) (fun vs H Q E h => ?_) (fun f cdv A outer t H vs Q E hr h => ?_)
  · obtain ⟨c, rfl, _⟩ := h; rfl
  · obtain ⟨c, rfl, hc, q⟩ := h
    refine ⟨_, (pss_cons (ps_set (i := 1) sc_law_one_standing_holds.nd rfl (Or.inl rfl) (pe_dn D_shortest_total hr (by decide) rfl (pa_cons pe_int (pa_cons (pv 0) pa_nil))))
      (pss_one (ps_ret (pe_and (pe_dn D_law_whole hr (by decide) rfl (pa_cons (pv 1) pa_nil)) (pe_and (pe_cmpR op_eq (pv 1) (pe_dn D_law_filled hr (by decide) rfl (pa_cons pe_int (pa_cons (pv 0) pa_nil))) (nomark _)) (pe_one (pe_dn D_law_is_due hr (by decide) rfl (pa_cons pe_int (pa_cons (pv 0) (pa_cons (pv 1) pa_nil)))))))))), ?_⟩
    have hcap := T30_cap
    have hBig : T30 ≤ Big := by decide +kernel
    have e1' : totF 2 c = totE (eT 1) (sT 1) c := tot_one_standing c
    refine q_asg (v := .int (totE (eT 1) (sT 1) c : Nat)) (ev_is (ev_call (ea_cons ev_c (ea_cons (ev_var rfl) ea_nil)) (sv_st (s := 2) (by decide) (by decide) (by omega))) (by rw [e1'])) fun H1 e1 => ?_
    have heq : decide (V.int (totE (eT 1) (sT 1) c : Nat) = V.int (totE (eT 1) (sT 1) c : Nat)) = true := decide_eq_true rfl
    exact s_ret (v := .bl (true && (true && true))) (ev_andV (ev_call (ea_cons (ev_var rfl) ea_nil) sv_whole) fun _ => ev_andV (ev_is (ev_op (ev_var rfl) (ev_call (ea_cons ev_c (ea_cons (ev_var rfl) ea_nil)) (sv_tot (p := 1) (by decide) (by decide) (by omega))) (rv_eq rfl)) (congrArg V.bl heq)) fun _ => ev_call (ea_cons ev_c (ea_cons (ev_var rfl) (ea_cons (ev_var rfl) ea_nil))) (sv_due (p := 1) (by decide) (by decide) (by omega))) fun H2 e2 => q H2 (e1.trans e2)
end
end My

set_option Elab.async false
set_option linter.all false
set_option maxRecDepth 100000
set_option maxHeartbeats 4000000
namespace My
open PySem PySem.Spec PyProof.Rows L2 Evl
open SX (S S_len S_cat S_beq S_beq_eq S_inj S_tl)
section
variable {P : Program} {w : World} {K : PySem.W.Frag} {mg : Str → Option Value} {base : Heap}
abbrev s_law : Stmt := top 19
abbrev N_law : List Str := ["script", "row", "states", "many", "kept", "near", "sizes", "small", "few", "lengths", "room", "uses", "used", "beyond", "gap", "longest", "large", "rooms", "moved", "word", "k"]
theorem sc_law : FnScope N_law ["script"] (defScope s_law) := ⟨rfl, rfl, rfl, by decide +kernel, rfl, by decide +kernel, by decide +kernel⟩
def spLaw (K : PySem.W.Frag) : Sp := fun vs H Q _ => ∃ (a : Addr) (ns : List Int), vs = [.ref a] ∧ SqL K H a (ns.map V.int) ∧ ∀ H', Q (.bl true) H'
theorem ok_law (D_law_cell : Dn P w K mg base 1 "_law_cell" s_law_cell ["script", "k"] (spCellF K)) (D_law_digits : Dn P w K mg base 1 "_law_digits" s_law_digits ["cell", "sizes"] (spDigits K))
    (D_law_asked : Dn P w K mg base 2 "_law_asked" s_law_asked ["row", "states"] (spAsked K)) (D_floor_bits : Dn P w K mg base 2 "floor_bits" s_floor_bits ["standings", "count"] spTot) (D_law_is_due : Dn P w K mg base 3 "_law_is_due" s_law_is_due ["states", "many", "due"] spDue) (D_law_states : Dn P w K mg base 1 "_law_states" s_law_states ["row"] (spStates K)) (D_law_one_standing_holds : Dn P w K mg base 4 "_law_one_standing_holds" s_law_one_standing_holds ["many"] spOne)
    (D_law_filled : Dn P w K mg base 1 "_law_filled" s_law_filled ["states", "many"] spTot) (D_law_bit_words : Dn P w K mg base 1 "_law_bit_words" s_law_bit_words ["most"] spBW) (D_law_uses : Dn P w K mg base 1 "_law_uses" s_law_uses ["rooms", "row"] (spUses K))
    (D_law_choice_holds : Dn P w K mg base 3 "_law_choice_holds" s_law_choice_holds ["states", "lengths", "uses", "tight"] (spChoice K)) (D_law_rooms : Dn P w K mg base 1 "_law_rooms" s_law_rooms ["states", "lengths"] spRooms)
    (D_law_tight : Dn P w K mg base 1 "_law_tight" s_law_tight ["rooms", "uses"] (spTight K)) (T : TT mg) (F : At K mg "law" s_law) : Dn P w K mg base 5 "law" s_law ["script"] (spLaw K) := by
  refine dn_ok F sc_law (fun _ _ _ _ _ _ us hl => match us, hl with | [_], _ => rfl) (fun vs H Q E h => ?_) (fun f cdv A outer t H vs Q E hr h => ?_)
  · obtain ⟨a, ns, rfl, _⟩ := h; rfl
  · obtain ⟨a, ns, rfl, hS, q⟩ := h
    refine ⟨_, (pss_cons (ps_set (i := 1) sc_law.nd rfl (Or.inl rfl) (pe_dn D_law_digits hr (by decide) rfl (pa_cons (pe_dn D_law_cell hr (by decide) rfl (pa_cons (pv 0) (pa_cons pe_int pa_nil))) (pa_cons (pe_op op_cat (pe_lst (pa_cons pe_int (pa_cons pe_int (pa_cons pe_int (pa_cons pe_int (pa_cons pe_int (pa_cons pe_int pa_nil))))))) (pe_op op_rep (pe_lst (pa_cons pe_int pa_nil)) pe_int)) pa_nil))))
      (pss_cons (ps_set (i := 2) sc_law.nd rfl (Or.inl rfl) (pe_dn D_law_states hr (by decide) rfl (pa_cons (pv 1) pa_nil)))
      (pss_cons (ps_set (i := 3) sc_law.nd rfl (Or.inl rfl) (pe_dn D_law_asked hr (by decide) rfl (pa_cons (pe_slice sl_list (pv 1) (po_some pe_int) po_none) (pa_cons (pv 2) pa_nil))))
      (pss_cons (ps_set (i := 4) sc_law.nd rfl (Or.inl rfl) (pe_callB (cr_reprI) (by rfl) T.repr (by decide +kernel) (pa_cons (pe_dn D_floor_bits hr (by decide) rfl (pa_cons (pv 2) (pa_cons (pv 3) pa_nil))) pa_nil)))
      (pss_cons (ps_if (pt_not (pt_val (pe_dn D_law_is_due hr (by decide) rfl (pa_cons (pv 2) (pa_cons (pv 3) (pa_cons (pe_dn D_law_filled hr (by decide) rfl (pa_cons (pv 2) (pa_cons (pv 3) pa_nil))) pa_nil)))))) (pss_one (ps_ret pe_bl)) pss_nil)
      (pss_cons (ps_for PassesOwn.never rfl (pi_list (pe_lst (pa_cons (pe_op op_sub (pv 3) pe_int) (pa_cons (pe_op op_add (pv 3) pe_int) pa_nil)))) (pg_name (i := 5) sc_law.nd rfl (Or.inl rfl))
        (pss_one (ps_if (PW.pt (pw_and (pt_chain op_le op_le pe_int (pv 5) (pe_op op_pow pe_int pe_int)) (pw_and1 (pt_not (pt_val (pe_dn D_law_is_due hr (by decide) rfl (pa_cons (pv 2) (pa_cons (pv 5) (pa_cons (pe_dn D_law_filled hr (by decide) rfl (pa_cons (pv 2) (pa_cons (pv 5) pa_nil))) pa_nil))))))))) (pss_one (ps_ret pe_bl)) pss_nil)))
      (pss_cons (ps_if (PW.pt (pw_and (pt_cmpR op_lt (pv 2) pe_int (nomark _)) (pw_and1 (pt_not (pt_val (pe_dn D_law_is_due hr (by decide) rfl (pa_cons (pe_op op_add (pv 2) pe_int) (pa_cons (pv 3) (pa_cons (pe_dn D_law_filled hr (by decide) rfl (pa_cons (pe_op op_add (pv 2) pe_int) (pa_cons (pv 3) pa_nil))) pa_nil))))))))) (pss_one (ps_ret pe_bl)) pss_nil)
      (pss_cons (ps_if (pt_not (pt_val (pe_dn D_law_one_standing_holds hr (by decide) rfl (pa_cons (pv 3) pa_nil)))) (pss_one (ps_ret pe_bl)) pss_nil)
      (pss_cons (ps_set (i := 6) sc_law.nd rfl (Or.inl rfl) (pe_op op_cat (pe_op op_cat (pe_op op_cat (pe_lst (pa_cons pe_int (pa_cons pe_int (pa_cons pe_int pa_nil)))) (pe_op op_rep (pe_lst (pa_cons pe_int (pa_cons pe_int (pa_cons pe_int (pa_cons pe_int pa_nil))))) pe_int)) (pe_op op_rep (pe_lst (pa_cons pe_int pa_nil)) pe_int)) (pe_op op_rep (pe_lst (pa_cons pe_int pa_nil)) pe_int)))
      (pss_cons (ps_set (i := 7) sc_law.nd rfl (Or.inl rfl) (pe_dn D_law_digits hr (by decide) rfl (pa_cons (pe_dn D_law_cell hr (by decide) rfl (pa_cons (pv 0) (pa_cons pe_int pa_nil))) (pa_cons (pe_op op_cat (pe_lst (pa_cons pe_int pa_nil)) (pv 6)) pa_nil))))
      (pss_cons (ps_set (i := 8) sc_law.nd rfl (Or.inr rfl) (pe_op op_add pe_int (pe_ix ix_list (pv 7) pe_int (fun _ _ => rfl))))
      (pss_cons (ps_set (i := 9) sc_law.nd rfl (Or.inr rfl) (pe_lc (own := [("word", 19)]) (g := gName 19) (tt := tYes) rfl sc_law.nd (pi_list (pe_dn D_law_bit_words hr (by decide) rfl (pa_cons pe_int pa_nil))) (blkOk_by (own := [("word", 19)]) (N := N_law) (sc := defScope s_law) (by decide +kernel)) (fun _ _ _ _ _ => pg_name (i := 19) sc_law.nd rfl (Or.inl rfl)) (fun _ _ _ _ _ => pts_nil) (fun _ _ _ _ _ => (pe_callB call_len_str (by rfl) T.len boot_len (pa_cons (pv 19) pa_nil)))))
      (pss_cons (ps_set (i := 10) sc_law.nd rfl (Or.inr rfl) (pe_op op_cat (pe_lst (pa_cons (pe_op op_fdiv (pe_op op_mul (pv 8) (pe_op op_sub (pv 8) pe_int)) pe_int) pa_nil)) (pe_op op_rep (pe_lst (pa_cons (pe_op op_mul (pv 8) (pv 8)) pa_nil)) pe_int)))
      (pss_cons (ps_set (i := 11) sc_law.nd rfl (Or.inr rfl) (pe_dn D_law_uses hr (by decide) rfl (pa_cons (pv 10) (pa_cons (pe_slice sl_list (pv 7) (po_some pe_int) po_none) pa_nil))))
      (pss_cons (ps_set (i := 12) sc_law.nd rfl (Or.inl rfl) (pe_callB (cr_sum rfl) (by rfl) T.sum (by decide +kernel) (pa_cons (pv 11) pa_nil)))
      (pss_cons (ps_set (i := 13) sc_law.nd rfl (Or.inl rfl) (pe_op op_sub (pv 12) (pe_ix ix_list (pv 10) pe_int (fun _ _ => rfl))))
      (pss_cons (ps_if (pt_not (pt_val (pe_dn D_law_is_due hr (by decide) rfl (pa_cons (pv 8) (pa_cons (pv 12) (pa_cons (pe_callB (cr_sum rfl) (by rfl) T.sum (by decide +kernel) (pa_cons (pe_lc (te := tOp (rIxL K) (tVar 9) (tOp (rI0 fun i j => .int (i + j)) (tC (.int 1)) (tOp (rI CDiv fun i j => .int (i / j)) (tVar 20) (tOp (rI CMul fun i j => .int (i * j)) (tVar 8) (tVar 8))))) (own := [("k", 20)]) (g := gName 20) (tt := tYes) rfl sc_law.nd (pi_range1 (by rfl) T.range (pa_cons (pv 13) pa_nil)) (blkOk_by (own := [("k", 20)]) (N := N_law) (sc := defScope s_law) (by decide +kernel)) (fun _ _ _ _ _ => pg_name (i := 20) sc_law.nd rfl (Or.inl rfl)) (fun _ _ _ _ _ => pts_nil) (fun _ _ _ _ _ => (pe_ix ix_list (pv 9) (pe_op op_add pe_int (pe_op op_fdiv (pv 20) (pe_op op_mul (pv 8) (pv 8)))) (fun _ _ => rfl)))) pa_nil)) pa_nil)))))) (pss_one (ps_ret pe_bl)) pss_nil)
      (pss_cons (ps_set (i := 14) sc_law.nd rfl (Or.inl rfl) (pe_callB (cr_min rfl) (by rfl) T.min (by decide +kernel) (pa_cons (pe_op op_cat (pe_lc (te := tOp (rIxL K) (tVar 9) (tVar 20)) (tt := tTest (tOp (rI0 fun i j => .bl (decide (i < j))) (tOp (rIxL K) (tVar 11) (tVar 20)) (tOp (rIxL K) (tVar 10) (tVar 20)))) (own := [("k", 20)]) (g := gName 20) rfl sc_law.nd (pi_range1 (by rfl) T.range (pa_cons pe_int pa_nil)) (blkOk_by (own := [("k", 20)]) (N := N_law) (sc := defScope s_law) (by decide +kernel)) (fun _ _ _ _ _ => pg_name (i := 20) sc_law.nd rfl (Or.inl rfl)) (fun _ _ _ _ _ => (pts_one (pt_cmpR op_lt (pe_ix ix_list (pv 11) (pv 20) (fun _ _ => rfl)) (pe_ix ix_list (pv 10) (pv 20) (fun _ _ => rfl)) (nomark _)))) (fun _ _ _ _ _ => (pe_ix ix_list (pv 9) (pv 20) (fun _ _ => rfl)))) (pe_lst (pa_cons pe_int pa_nil))) pa_nil)))
      (pss_cons (ps_set (i := 15) sc_law.nd rfl (Or.inl rfl) (pe_callB (cr_max rfl) (by rfl) T.max (by decide +kernel) (pa_cons (pe_op op_cat (pe_lc (te := tOp (rIxL K) (tVar 9) (tVar 20)) (tt := tTest (tOp (rI0 fun i j => .bl (decide (j < i))) (tOp (rIxL K) (tVar 11) (tVar 20)) (tC (.int 0)))) (own := [("k", 20)]) (g := gName 20) rfl sc_law.nd (pi_range1 (by rfl) T.range (pa_cons pe_int pa_nil)) (blkOk_by (own := [("k", 20)]) (N := N_law) (sc := defScope s_law) (by decide +kernel)) (fun _ _ _ _ _ => pg_name (i := 20) sc_law.nd rfl (Or.inl rfl)) (fun _ _ _ _ _ => (pts_one (pt_cmpR op_gt (pe_ix ix_list (pv 11) (pv 20) (fun _ _ => rfl)) pe_int (nomark _)))) (fun _ _ _ _ _ => (pe_ix ix_list (pv 9) (pv 20) (fun _ _ => rfl)))) (pe_lst (pa_cons pe_int pa_nil))) pa_nil)))
      (pss_cons (ps_if (pt_not (pt_val (pe_dn D_law_choice_holds hr (by decide) rfl (pa_cons (pv 8) (pa_cons (pv 9) (pa_cons (pv 11) (pa_cons (pe_cmpR op_le (pv 15) (pv 14) (nomark _)) pa_nil))))))) (pss_one (ps_ret pe_bl)) pss_nil)
      (pss_cons (ps_set (i := 16) sc_law.nd rfl (Or.inl rfl) (pe_dn D_law_digits hr (by decide) rfl (pa_cons (pe_dn D_law_cell hr (by decide) rfl (pa_cons (pv 0) (pa_cons pe_int pa_nil))) (pa_cons (pe_op op_cat (pe_lst (pa_cons pe_int pa_nil)) (pv 6)) pa_nil))))
      (pss_cons (ps_set (i := 17) sc_law.nd rfl (Or.inl rfl) (pe_dn D_law_rooms hr (by decide) rfl (pa_cons (pv 2) (pa_cons (pe_op op_add pe_int (pe_ix ix_list (pv 16) pe_int (fun _ _ => rfl))) pa_nil))))
      (pss_cons (ps_set (i := 18) sc_law.nd rfl (Or.inl rfl) (pe_dn D_law_uses hr (by decide) rfl (pa_cons (pv 17) (pa_cons (pe_slice sl_list (pv 16) (po_some pe_int) po_none) pa_nil))))
      (pss_cons (ps_if (pt_not (pt_val (pe_dn D_law_choice_holds hr (by decide) rfl (pa_cons (pv 2) (pa_cons (pe_listRg rfl rfl T.list_ (prg_1 rfl T.range (pe_callB call_len_seq (by rfl) T.len boot_len (pa_cons (pv 17) pa_nil)))) (pa_cons (pv 18) (pa_cons (pe_dn D_law_tight hr (by decide) rfl (pa_cons (pv 17) (pa_cons (pv 18) pa_nil))) pa_nil))))))) (pss_one (ps_ret pe_bl)) pss_nil)
      (pss_one (ps_ret (pe_cmpR op_eq (pe_callB (cr_reprI) (by rfl) T.repr (by decide +kernel) (pa_cons (pe_dn D_floor_bits hr (by decide) rfl (pa_cons (pv 2) (pa_cons (pv 3) pa_nil))) pa_nil)) (pv 4) (nomark _)))))))))))))))))))))))))))), ?_⟩
    have hBig : T30 + 10 ≤ Big := by decide +kernel
    refine q_call2L (xs := SA.map V.int) (ev_call (ea_cons (ev_var rfl) (ea_cons ev_c ea_nil)) (sv_cell hS (by decide) (by decide))) (el_cat (el_lst (ea_cons ev_c (ea_cons ev_c (ea_cons ev_c (ea_cons ev_c (ea_cons ev_c (ea_cons ev_c ea_nil)))))) (by show 6 ≤ 100000; decide)) (el_rep (el_lst (ea_cons ev_c ea_nil) (by show 1 ≤ 100000; decide)) (fun _ _ => ev_c) (by decide) (by decide) (by decide)) (by decide)) (fun p H1 hp e => sl_digits (sq_of hp) okSA) fun rw' H1 nrw e1 h1 => ?_
    have hW1 := digits_in (cellF ns 0) SA (pos_of okSA)
    generalize digitsF (cellF ns 0) SA = D1 at h1 hW1
    refine q_call (ea_cons (ev_var rfl) ea_nil) fun H2 e2 => ⟨rw', D1, rfl, sq_of (e2 _ _ h1), hW1, fun s hs1 hs36 H3 e3 => ?_⟩
    have hs8 : s ≤ 10000 := by omega
    have e13 := (e1.trans e2).trans e3
    have hcut0 : cutV (D1.map V.int) (some 2) none = (D1.drop 2).map V.int := by
      rw [cutV_L, cutL_map, cutL_from (by decide)]
      rfl
    refine q_callLV (xs := (D1.drop 2).map V.int) (by
      rw [← hcut0]
      exact el_sl (ev_var rfl) (eo_some ev_c) eo_none (sq_of (e3 _ _ (e2 _ _ h1)))) (ev_var rfl) fun pd H4 e4 hpd => ⟨pd, D1.drop 2, s, rfl, sq_of hpd, within_drop2 hW1, hs1, hs36, fun n hn H5 e5 => ?_⟩
    have e15 := (e13.trans e4).trans e5
    have hnB : n ≤ Big := by omega
    refine q_asg (ev_reprI (ev_call (ea_cons (ev_var rfl) (ea_cons (ev_var rfl) ea_nil)) (sv_tot hs1 hs8 hnB)) (log2_small (tot_bound (sT_pos hs1) hnB))) fun H6 e6 => ?_
    refine q_when (b := !true) (et_not (et_B (ev_call (ea_cons (ev_var rfl) (ea_cons (ev_var rfl) (ea_cons (ev_call (ea_cons (ev_var rfl) (ea_cons (ev_var rfl) ea_nil)) (sv_tot hs1 hs8 hnB)) ea_nil))) (sv_due hs1 hs8 hnB)))) (fun hb => absurd hb (by decide)) fun _ H7 e7 => ?_
    have e17 := (e15.trans e6).trans e7
    refine q_forNLn (xs := [V.int ((n : Int) - 1), V.int ((n : Int) + 1)]) (el_lst (ea_cons (ev_op (ev_var rfl) ev_c rv_I0) (ea_cons (ev_op (ev_var rfl) ev_c rv_I0) ea_nil)) (by show 2 ≤ 100000; decide))
      (fun p i σ' H' => ∃ v : Option V, σ' = [some (.ref a), some (.ref rw'), some (.int (s : Int)), some (.int (n : Int)), some (.str (toString ((totE (eT s) (sT s) n : Nat) : Int))), v, none, none, none, none, none, none, none, none, none, none, none, none, none, none, none] ∧ Ex H H' ∧ H' p = some (.lst [V.int ((n : Int) - 1), V.int ((n : Int) + 1)]))
      (fun p H8 hp e8 h8 => ⟨none, rfl, e17.trans e8, h8⟩) (fun p i σ' H' _ ⟨_, _, _, hp⟩ => sq_of hp) ?_ ?_
    · rintro p i x σ' H' hx ⟨v, rfl, e, hp⟩
      obtain ⟨z, rfl, hz⟩ : ∃ z : Int, x = .int z ∧ z ≤ (n : Int) + 1 := by
        have := List.mem_of_getElem? hx
        rcases List.mem_cons.mp this with rfl | h2
        · exact ⟨_, rfl, by omega⟩
        · rw [List.mem_singleton.mp h2]
          exact ⟨_, rfl, by omega⟩
      refine s_when (b := (decide ((0 : Int) ≤ z) && decide (z ≤ 10 ^ (Int.toNat 30))) && false) (et_and (et_chain ev_c (ev_var rfl) (ev_op ev_c ev_c (rv_I c30)) rv_I0 rv_I0) fun hc => ?_) (fun hb => ?_) fun _ H8 e8 => ⟨_, rfl, e.trans e8, e8 _ _ hp⟩
      · rw [Bool.and_eq_true] at hc
        have hz0 := of_decide_eq_true hc.1
        obtain ⟨c, rfl⟩ : ∃ c : Nat, z = (c : Int) := ⟨z.toNat, by omega⟩
        have hcB : c ≤ Big := by omega
        exact et_not (a := true) (et_B (ev_call (ea_cons (ev_var rfl) (ea_cons (ev_var rfl) (ea_cons (ev_call (ea_cons (ev_var rfl) (ea_cons (ev_var rfl) ea_nil)) (sv_tot hs1 hs8 hcB)) ea_nil))) (sv_due hs1 hs8 hcB)))
      · rw [Bool.and_false] at hb
        exact absurd hb (by decide)
    rintro p σ' H8 ⟨v, rfl, e18, hp⟩
    have es1 : (s : Int) + 1 = ((s + 1 : Nat) : Int) := by omega
    refine q_when (b := decide ((s : Int) < 3600) && false) (et_and (et_test (ev_op (ev_var rfl) ev_c rv_I0)) fun hc => et_not (a := true) (et_B (ev_call (ea_cons (ev_is (ev_op (ev_var rfl) ev_c rv_I0) (congrArg V.int es1)) (ea_cons (ev_var rfl) (ea_cons (ev_call (ea_cons (ev_is (ev_op (ev_var rfl) ev_c rv_I0) (congrArg V.int es1)) (ea_cons (ev_var rfl) ea_nil)) (sv_tot (by omega) (by omega) hnB)) ea_nil))) (sv_due (by omega) (by omega) hnB)))) (fun hb => ?_) fun _ H9' e9' => ?_
    · rw [Bool.and_false] at hb
      exact absurd hb (by decide)
    refine q_when (b := !true) (et_not (et_B (ev_call (ea_cons (ev_var rfl) ea_nil) (sv_one hn)))) (fun hb => absurd hb (by decide)) fun _ H9 e9'' => ?_
    have e9 := e9'.trans e9''
    have e19 := e18.trans e9
    refine q_asgL (xs := SZ.map V.int) (el_cat (el_cat (el_cat (el_lst (ea_cons ev_c (ea_cons ev_c (ea_cons ev_c ea_nil))) (by show 3 ≤ 100000; decide)) (el_rep (el_lst (ea_cons ev_c (ea_cons ev_c (ea_cons ev_c (ea_cons ev_c ea_nil)))) (by show 4 ≤ 100000; decide)) (fun _ _ => ev_c) (by decide) (by decide) (by decide)) (by decide)) (el_rep (el_lst (ea_cons ev_c ea_nil) (by show 1 ≤ 100000; decide)) (fun _ _ => ev_c) (by decide) (by decide) (by decide)) (by decide)) (el_rep (el_lst (ea_cons ev_c ea_nil) (by show 1 ≤ 100000; decide)) (fun _ _ => ev_c) (by decide) (by decide) (by decide)) (by decide)) fun sz H10 nsz e10 h10 => ?_
    have e110 := e19.trans e10
    refine q_call2L (xs := (5 :: SZ).map V.int) (ev_call (ea_cons (ev_var rfl) (ea_cons ev_c ea_nil)) (sv_cell (ex_l e110 hS) (by decide) (by decide))) (el_catV (el_lst (ea_cons ev_c ea_nil) (by show 1 ≤ 100000; decide)) (ev_var rfl) h10 (by decide)) (fun p H1 hp e => sl_digits (sq_of hp) okS9) fun sm H11 nsm e11 h11 => ?_
    obtain ⟨f0, ds, hD2, ⟨f1, f2⟩, hds⟩ := within_cons (digits_in (cellF ns 1) (5 :: SZ) (pos_of okS9))
    rw [hD2] at h11
    have e111 := e110.trans e11
    obtain ⟨fw, hfw, hfw1, hfw9⟩ : ∃ fw : Nat, (1 : Int) + f0 = (fw : Int) ∧ 1 ≤ fw ∧ fw ≤ 5 := ⟨(1 + f0).toNat, by omega, by omega, by omega⟩
    have at0 : atI ((f0 :: ds).map V.int) (0 : Int) = some (.int f0) := at_d (rs := f0 :: ds) (i := 0) (by simp)
    refine q_asg (ev_is (ev_op ev_c (ev_op (ev_var rfl) ev_c (rv_ixL (K := K) (sq_of h11) at0)) rv_I0) (congrArg V.int hfw)) fun H12 e12 => ?_
    obtain ⟨hwl, hwv⟩ := words_ok 15 (by decide)
    refine q_asgL (xs := nV LV) (by
      have hgv : given ((wordsF 15).map fun c => V.str (S c)).length (fun _ => true) (fun k => V.int ((lev k : Nat) : Int)) = nV LV := by
        rw [List.length_map, hwl, given_nat, ← nV_nI]
        rfl
      rw [← hgv]
      refine el_lcNL (fun _ => true) _ (el_call (ea_cons ev_c ea_nil) sl_bw) (by rw [List.length_map, hwl]; decide) (fun _ => rfl) (fun i x H2 e2 hi => et_yes) (fun i x H2 e2 hi _ => ?_)
      have hi' := (List.getElem?_eq_some_iff.mp hi).1
      rw [List.length_map, hwl] at hi'
      rw [List.getElem?_map, List.getElem?_eq_getElem (by omega)] at hi
      cases Option.some.inj hi
      have hv := hwv i (by omega)
      rw [List.getD_eq_getElem?_getD, List.getElem?_eq_getElem (by omega)] at hv
      have hv' : ((wordsF 15)[i]'(by omega)).length = lev i := hv
      have hl4 := lev_lt i
      rw [← hv']
      exact ev_is (ev_lenStr (ev_var rfl) (by rw [S_len, hv']; show lev i ≤ 16777216; omega)) (by rw [S_len])) fun ln H13 nln e13' h13 => ?_
    have e113 := (e111.trans e12).trans e13'
    have hcut : cutV ((f0 :: ds).map V.int) (some 1) none = ds.map V.int := by
      rw [cutV_L, cutL_map, cutL_from (by decide)]
      rfl
    have hfw10 : fw ≤ 10000 := by omega
    refine q_asgL (xs := nV (eT fw :: List.replicate 30 (sT fw))) (el_cat (el_lst (ea_cons (ev_is (ev_op (ev_op (ev_var rfl) (ev_op (ev_var rfl) ev_c rv_I0) (rv_I (pmul hfw10 _))) ev_c (rv_I (by unfold CDiv; decide))) (congrArg V.int (eT_cast hfw1))) ea_nil) (by show 1 ≤ 100000; decide)) (el_rep (el_lst (ea_cons (ev_is (ev_op (ev_var rfl) (ev_var rfl) (rv_I (pmul hfw10 _))) (congrArg V.int (sT_cast fw))) ea_nil) (by show 1 ≤ 100000; decide)) (fun _ _ => ev_c) (by decide) (by show 1 * 30 ≤ 100000; decide) (by decide)) (by show 1 + 30 ≤ 100000; decide)) fun ro H14r nro e14r hro => ?_
    have hrl : (eT fw :: List.replicate 30 (sT fw)).length = 31 := by rw [List.length_cons, List.length_replicate]
    refine q_callVL (ys := ds.map V.int) (ev_var rfl) (by
      rw [← hcut]
      exact el_sl (ev_var rfl) (eo_some ev_c) eo_none (sq_of (e14r _ _ (e13' _ _ (e12 _ _ h11))))) fun pb H14 e14s hpb => ⟨ro, pb, eT fw :: List.replicate 30 (sT fw), ds, rfl, sq_of (e14s _ _ hro), sq_of hpb, by rw [hrl]; decide, by rw [hrl]; decide, hds, fun us pu H15 hbd npu e15' h15 => ?_⟩
    have e14 := e14r.trans e14s
    have e115 := (e113.trans e14).trans e15'
    have hul : us.length = 31 := by rw [hbd.len, hrl]
    have hus : us.sum ≤ eT fw + 30 * sT fw := sum_le_31 hbd
    have hsT25 : sT fw ≤ 5 * 5 := Nat.mul_le_mul hfw9 hfw9
    have heT25 : eT fw ≤ 5 * 5 := by
      have a : fw * (fw - 1) ≤ 5 * 5 := Nat.mul_le_mul hfw9 (by omega)
      unfold eT
      omega
    have hsT1 := sT_pos hfw1
    have hB1000 : 1000 ≤ Big := by decide +kernel
    have husB : us.sum ≤ Big := by omega
    have h15i : H15 pu = some (.lst ((nI us).map V.int)) := by rw [← nV_nI]; exact h15
    refine q_asg (ev_is (ev_sumR (K := K) (ev_var rfl) (sq_of h15i)) (congrArg V.int (sum_nI us))) fun H16 e16 => ?_
    have hro16 : H16 ro = some (.lst (nV (eT fw :: List.replicate 30 (sT fw)))) := e16 _ _ (e15' _ _ (e14s _ _ hro))
    have hro0 := at_nV (l := eT fw :: List.replicate 30 (sT fw)) (i := 0) (by rw [hrl]; decide)
    refine q_asg (ev_op (ev_var rfl) (ev_op (ev_var rfl) ev_c (rv_ixL (K := K) (sq_of hro16) hro0)) rv_I0) fun H16b e16b => ?_
    have hln16 : H16b ln = some (.lst (nV LV)) := e16b _ _ (e16 _ _ (e15' _ _ (e14 _ _ h13)))
    have hpu16 : H16b pu = some (.lst (nV us)) := e16b _ _ (e16 _ _ h15)
    have hroB := e16b _ _ hro16
    have hLVl : LV.length = 31 := by show ((List.range 31).map lev).length = 31; rw [List.length_map, List.length_range]
    have ebz : ((us.sum : Nat) : Int) - (((eT fw :: List.replicate 30 (sT fw)).getD 0 0 : Nat) : Int) = ((us.sum : Nat) : Int) - ((eT fw : Nat) : Int) := rfl
    have hplain : (nI ((List.range (us.sum - eT fw)).map fun k => lev (1 + k / sT fw))).sum = ((totE (eT fw) (sT fw) us.sum : Nat) : Int) := by
      rw [sum_nI, plain_sum, plain_tot hsT1 hus]
    have lat : ∀ i : Nat, i < 31 → atI (nV LV) (i : Int) = some (.int (lev i : Nat)) := fun i hi => by
      rw [← LV_at i hi]
      exact at_nV (by rw [hLVl]; exact hi)
    refine q_when (b := !true) (et_not (et_B (ev_call (ea_cons (ev_var rfl) (ea_cons (ev_var rfl) (ea_cons (ev_is (ev_sum (K := K) (ns := nI ((List.range (us.sum - eT fw)).map fun k => lev (1 + k / sT fw))) (by
      rw [← given_nat]
      have en : (((us.sum : Nat) : Int) - (((eT fw :: List.replicate 30 (sT fw)).getD 0 0 : Nat) : Int)).toNat = us.sum - eT fw := by rw [ebz]; omega
      rw [← en]
      refine el_lcRz (fun _ => true) _ (ea_cons (ev_var rfl) ea_nil) (by rw [ebz]; omega) (fun _ => rfl) (fun i H2 e2 hi => et_yes) (fun i H2 e2 hi _ => ?_)
      rw [ebz] at hi
      have hq : i / sT fw < 30 := (Nat.div_lt_iff_lt_mul hsT1).mpr (by omega)
      have hla := lat (1 + i / sT fw) (by omega)
      have ec : (1 : Int) + (i : Int) / ((sT fw : Nat) : Int) = ((1 + i / sT fw : Nat) : Int) := by rw [Int.natCast_add, Int.natCast_ediv]; rfl
      rw [← ec] at hla
      exact ev_op (ev_var rfl) (ev_op ev_c (ev_op (ev_var rfl) (ev_is (ev_op (ev_var rfl) (ev_var rfl) (rv_I (pmul hfw10 _))) (congrArg V.int (sT_cast fw))) (rv_I (by unfold CDiv; omega))) rv_I0) (rv_ixL (K := K) (sq_of (e2 _ _ hln16)) hla))) (congrArg V.int hplain)) ea_nil))) (sv_due hfw1 hfw10 husB)))) (fun hb => absurd hb (by decide)) fun _ H17 e17' => ?_
    have hro17 := e17' _ _ hroB
    have hln17 := e17' _ _ hln16
    have hpu17 := e17' _ _ hpu16
    have uat : ∀ i : Nat, i < 31 → atI (nV us) (i : Int) = some (.int (us.getD i 0 : Nat)) := fun i hi => at_nV (by omega)
    refine q_minL (K := K) (ns := nI (((List.range 31).filter fun k => decide (us.getD k 0 < (eT fw :: List.replicate 30 (sT fw)).getD k 0)).map lev) ++ [5]) (by
      rw [← given_some]
      refine el_cat ?_ (el_lst (ea_cons ev_c ea_nil) (by show 1 ≤ 100000; decide)) (by have := given_len 31 (fun k => decide (us.getD k 0 < (eT fw :: List.replicate 30 (sT fw)).getD k 0)) (fun k => V.int ((lev k : Nat) : Int)); show _ + 1 ≤ 100000; omega)
      refine el_lcR1 (n := 31) (fun k => decide (us.getD k 0 < (eT fw :: List.replicate 30 (sT fw)).getD k 0)) (fun k => V.int ((lev k : Nat) : Int)) (ea_cons ev_c ea_nil) ⟨by decide, by decide⟩ (fun _ => rfl) (fun i H2 e2 hi => ?_) (fun i H2 e2 hi _ => ?_)
      · refine et_is (et_test (ev_op (ev_op (ev_var rfl) (ev_var rfl) (rv_ixL (K := K) (sq_of (e2 _ _ hpu17)) (uat i (by omega)))) (ev_op (ev_var rfl) (ev_var rfl) (rv_ixL (K := K) (sq_of (e2 _ _ hro17)) (at_nV (by rw [hrl]; omega)))) rv_I0)) ?_
        exact decide_eq_decide.mpr (by omega)
      · exact ev_op (ev_var rfl) (ev_var rfl) (rv_ixL (K := K) (sq_of (e2 _ _ hln17)) (lat i (by omega)))) (by simp) fun gp hg1 hg2 H18 e18' => ?_
    obtain ⟨g, rfl, g5, gL⟩ := gap_facts hg1 hg2
    have hln18 := e18' _ _ hln17
    have hpu18 := e18' _ _ hpu17
    refine q_maxL (K := K) (ns := nI (((List.range 31).filter fun k => decide (0 < us.getD k 0)).map lev) ++ [0]) (by
      rw [← given_some]
      refine el_cat ?_ (el_lst (ea_cons ev_c ea_nil) (by show 1 ≤ 100000; decide)) (by have := given_len 31 (fun k => decide (0 < us.getD k 0)) (fun k => V.int ((lev k : Nat) : Int)); show _ + 1 ≤ 100000; omega)
      refine el_lcR1 (n := 31) (fun k => decide (0 < us.getD k 0)) (fun k => V.int ((lev k : Nat) : Int)) (ea_cons ev_c ea_nil) ⟨by decide, by decide⟩ (fun _ => rfl) (fun i H2 e2 hi => ?_) (fun i H2 e2 hi _ => ?_)
      · refine et_is (et_test (ev_op (ev_op (ev_var rfl) (ev_var rfl) (rv_ixL (K := K) (sq_of (e2 _ _ hpu18)) (uat i (by omega)))) ev_c rv_I0)) ?_
        exact decide_eq_decide.mpr (by omega)
      · exact ev_op (ev_var rfl) (ev_var rfl) (rv_ixL (K := K) (sq_of (e2 _ _ hln18)) (lat i (by omega)))) (by simp) fun lp hl1 hl2 H19 e19' => ?_
    obtain ⟨l, rfl, l4, lL⟩ := long_facts hl1 hl2
    obtain ⟨c1, c2⟩ := few_choice hrl hbd g5 gL l4 lL
    rw [few_54 hsT1 hus, ← wsum_lev hul] at c1 c2
    refine q_when (b := !true) (et_not (et_B (ev_call (ea_cons (ev_var rfl) (ea_cons (ev_var rfl) (ea_cons (ev_var rfl) (ea_cons (ev_op (ev_var rfl) (ev_var rfl) rv_I0) ea_nil)))) (sv_choice (ls := LV) (us := us) (sq_of (e19' _ _ hln18)) (sq_of (e19' _ _ hpu18)) ⟨hfw1, hfw10⟩ (by rw [hul, hLVl]) (by omega) husB LV_small c1 (by rw [c2]; exact ⟨fun hz => decide_eq_true (by omega), fun hz => by have := of_decide_eq_true hz; omega⟩))))) (fun hb => absurd hb (by decide)) fun _ H20 e20 => ?_
    have e120 := ((((e115.trans (e16.trans e16b)).trans e17').trans e18').trans e19').trans e20
    have hsz20 : H20 sz = some (.lst (SZ.map V.int)) := e20 _ _ (e19' _ _ (e18' _ _ (e17' _ _ (e16b _ _ (e16 _ _ (e15' _ _ (e14 _ _ (e13' _ _ (e12 _ _ (e11 _ _ h10))))))))))
    refine q_call2L (xs := (75 :: SZ).map V.int) (ev_call (ea_cons (ev_var rfl) (ea_cons ev_c ea_nil)) (sv_cell (ex_l e120 hS) (by decide) (by decide))) (el_catV (el_lst (ea_cons ev_c ea_nil) (by show 1 ≤ 100000; decide)) (ev_var rfl) hsz20 (by decide)) (fun p H1 hp e => sl_digits (sq_of hp) okS131) fun lg H21 nlg e21 h21 => ?_
    obtain ⟨g0, ds3, hD3, ⟨g1, g2⟩, hds3⟩ := within_cons (digits_in (cellF ns 2) (75 :: SZ) (pos_of okS131))
    rw [hD3] at h21
    have e121 := e120.trans e21
    obtain ⟨m, hm, hm1, hm75⟩ : ∃ m : Nat, (1 : Int) + g0 = (m : Int) ∧ 1 ≤ m ∧ m ≤ 75 := ⟨(1 + g0).toNat, by omega, by omega, by omega⟩
    have at0' : atI ((g0 :: ds3).map V.int) (0 : Int) = some (.int g0) := at_d (rs := g0 :: ds3) (i := 0) (by simp)
    refine q_asgL (el_call (ea_cons (ev_var rfl) (ea_cons (ev_is (ev_op ev_c (ev_op (ev_var rfl) ev_c (rv_ixL (K := K) (sq_of h21) at0')) rv_I0) (congrArg V.int hm)) ea_nil)) (sl_rooms (p := s) (m := m) hs1 hs8 (by omega))) fun rm H22 nrm e22 h22 => ?_
    have hcut3 : cutV ((g0 :: ds3).map V.int) (some 1) none = ds3.map V.int := by
      rw [cutV_L, cutL_map, cutL_from (by decide)]
      rfl
    refine q_callVL (ys := ds3.map V.int) (ev_var rfl) (by
      rw [← hcut3]
      exact el_sl (ev_var rfl) (eo_some ev_c) eo_none (sq_of (e22 _ _ h21))) fun pb3 H23 e23 hpb3 => ⟨rm, pb3, roomL (eT s) (sT s) (m + 1), ds3, rfl, sq_of (e23 _ _ h22), sq_of hpb3, by rw [roomL_len]; omega, by rw [roomL_len]; omega, hds3, fun ws pw H24 hbd3 npw e24 h24 => ?_⟩
    have hwl3 : ws.length = m + 1 := by rw [hbd3.len, roomL_len]
    have hrm24 := e24 _ _ (e23 _ _ h22)
    have hwB : ws.sum ≤ Big := by
      have a := Bd_sum hbd3
      rw [roomL_sum] at a
      have b := rooms_small hs36 hm75
      omega
    obtain ⟨k1, k2⟩ := choice_le (sT_pos hs1) hbd3
    rw [← wsum_len hwl3] at k1 k2
    have erm : ((nV (roomL (eT s) (sT s) (m + 1))).length : Int) = ((m + 1 : Nat) : Int) := by rw [nV_len, roomL_len]
    refine q_when (b := !true) (et_not (et_B (ev_call4L2 (xs := nV (List.range (m + 1))) (ev_var rfl) (by
      rw [← rgV_nat]
      exact el_listRg (ev_is (ev_len (K := K) (ev_var rfl) (sq_of hrm24)) (congrArg V.int erm)) (by omega) (by omega)) (ev_var rfl) (ev_call (ea_cons (ev_var rfl) (ea_cons (ev_var rfl) ea_nil)) (sv_tight (K := K) (sq_of hrm24) (sq_of h24) (by rw [hwl3, roomL_len]) (by rw [roomL_len]; omega))) (fun p H1 hp e => sv_choice (K := K) (ls := List.range (m + 1)) (us := ws) (sq_of hp) (sq_of (e _ _ h24)) ⟨hs1, hs8⟩ (by rw [hwl3, List.length_range]) (by omega) hwB (range_small (by omega)) k1 k2)))) (fun hb => absurd hb (by decide)) fun _ H25 e25 => ?_
    have heq : decide (V.str (toString ((totE (eT s) (sT s) n : Nat) : Int)) = V.str (toString ((totE (eT s) (sT s) n : Nat) : Int))) = true := decide_eq_true rfl
    exact s_ret (ev_is (ev_op (ev_reprI (ev_call (ea_cons (ev_var rfl) (ea_cons (ev_var rfl) ea_nil)) (sv_tot hs1 hs8 hnB)) (log2_small (tot_bound (sT_pos hs1) hnB))) (ev_var rfl) (rv_eq rfl)) (congrArg V.bl heq)) fun H26 e26 => q H26
end
end My

set_option Elab.async false
set_option linter.all false
set_option maxRecDepth 100000
set_option maxHeartbeats 0
namespace My
open PySem PySem.Spec PyProof.Rows L2 Evl
def d_floor_bits : He.DefD := ⟨("floor_bits", none), "floor_bits", "floor_bits", defArgs s_floor_bits, defBody s_floor_bits, defScope s_floor_bits, [], []⟩
def d_least_bits : He.DefD := ⟨("_least_bits", none), "_least_bits", "_least_bits", defArgs s_least_bits, defBody s_least_bits, defScope s_least_bits, [], []⟩
def d_shortest_total : He.DefD := ⟨("shortest_total", none), "shortest_total", "shortest_total", defArgs s_shortest_total, defBody s_shortest_total, defScope s_shortest_total, [], []⟩
def d_law_whole : He.DefD := ⟨("_law_whole", none), "_law_whole", "_law_whole", defArgs s_law_whole, defBody s_law_whole, defScope s_law_whole, [], []⟩
def d_law_cell : He.DefD := ⟨("_law_cell", none), "_law_cell", "_law_cell", defArgs s_law_cell, defBody s_law_cell, defScope s_law_cell, [], []⟩
def d_law_digits : He.DefD := ⟨("_law_digits", none), "_law_digits", "_law_digits", defArgs s_law_digits, defBody s_law_digits, defScope s_law_digits, [], []⟩
def d_law_bit_words : He.DefD := ⟨("_law_bit_words", none), "_law_bit_words", "_law_bit_words", defArgs s_law_bit_words, defBody s_law_bit_words, defScope s_law_bit_words, [], []⟩
def d_law_rooms : He.DefD := ⟨("_law_rooms", none), "_law_rooms", "_law_rooms", defArgs s_law_rooms, defBody s_law_rooms, defScope s_law_rooms, [], []⟩
def d_law_filled : He.DefD := ⟨("_law_filled", none), "_law_filled", "_law_filled", defArgs s_law_filled, defBody s_law_filled, defScope s_law_filled, [], []⟩
def d_law_uses : He.DefD := ⟨("_law_uses", none), "_law_uses", "_law_uses", defArgs s_law_uses, defBody s_law_uses, defScope s_law_uses, [], []⟩
def d_law_tight : He.DefD := ⟨("_law_tight", none), "_law_tight", "_law_tight", defArgs s_law_tight, defBody s_law_tight, defScope s_law_tight, [], []⟩
def d_law_is_due : He.DefD := ⟨("_law_is_due", none), "_law_is_due", "_law_is_due", defArgs s_law_is_due, defBody s_law_is_due, defScope s_law_is_due, [], []⟩
def d_law_choice_holds : He.DefD := ⟨("_law_choice_holds", none), "_law_choice_holds", "_law_choice_holds", defArgs s_law_choice_holds, defBody s_law_choice_holds, defScope s_law_choice_holds, [], []⟩
def d_law_states : He.DefD := ⟨("_law_states", none), "_law_states", "_law_states", defArgs s_law_states, defBody s_law_states, defScope s_law_states, [], []⟩
def d_law_asked : He.DefD := ⟨("_law_asked", none), "_law_asked", "_law_asked", defArgs s_law_asked, defBody s_law_asked, defScope s_law_asked, [], []⟩
def d_law_one_standing_holds : He.DefD := ⟨("_law_one_standing_holds", none), "_law_one_standing_holds", "_law_one_standing_holds", defArgs s_law_one_standing_holds, defBody s_law_one_standing_holds, defScope s_law_one_standing_holds, [], []⟩
def d_law : He.DefD := ⟨("law", none), "law", "law", defArgs s_law, defBody s_law, defScope s_law, [], []⟩
def fn : List He.DefD := [d_floor_bits, d_least_bits, d_shortest_total, d_law_whole, d_law_cell, d_law_digits, d_law_bit_words, d_law_rooms, d_law_filled, d_law_uses, d_law_tight, d_law_is_due, d_law_choice_holds, d_law_states, d_law_asked, d_law_one_standing_holds, d_law]
def fa : List He.Fa := [.glo "floor_bits", .glo "_least_bits", .glo "shortest_total", .glo "_law_whole", .glo "_law_cell", .glo "_law_digits", .glo "_law_bit_words", .glo "_law_rooms", .glo "_law_filled", .glo "_law_uses", .glo "_law_tight", .glo "_law_is_due", .glo "_law_choice_holds", .glo "_law_states", .glo "_law_asked", .glo "_law_one_standing_holds", .glo "law", .free "len", .free "int", .free "bool", .free "str", .free "list", .free "tuple", .free "range", .free "max", .free "min", .free "sum", .free "isinstance", .free "sorted", .free "repr", .free "abs", .free "enumerate"]
abbrev R : PySem.W.OpenRow := PySem.W.OpenLaw.row PySem.Challenge.rw_unpressed_k54_floor_bits
abbrev hk : PySem.W.Hook := He.hookD 4 fa fn
def ob (s : PySem.W.SharedT) : He.AlD := He.obsDG 4 fa fn (HandSHeadRun.getT s)
theorem ob_eq (s : PySem.W.SharedT) : ob s = hk.obs s.abs := He.obsDG_eq (HandSHeadRun.getT_eq s)
abbrev loose : List Str := ["floor_bits", "_least_bits", "shortest_total", "_law_whole", "_law_cell", "_law_digits", "_law_bit_words", "_law_rooms", "_law_filled", "_law_uses", "_law_tight", "_law_is_due", "_law_choice_holds", "_law_states", "_law_asked", "_law_one_standing_holds"]
theorem run (w : World) : HandSHeadRun.RunEq R (PySem.W.view R.prog [19]) hk ob 3000 loose w := by
  intro os
  kernel_rfl
theorem at_of {K : PySem.W.Frag} {mg : Str → Option Value} {h : Heap} (X : K.In h) (G : h.Ns mainGlobals mg) (c : He.SaysD fa fn K) (i : Nat) {x : Str} {st : Stmt} (h1 : fn[i]? = some ⟨(x, none), x, x, defArgs st, defBody st, defScope st, [], []⟩) (h2 : fa[i]? = some (.glo x)) : At K mg x st := by
  obtain ⟨fd, F⟩ := c.def_ i h1
  exact ⟨_, fd, F, He.glo_ok X G (c.fact i h2)⟩
theorem tt_of {K : PySem.W.Frag} {mg : Str → Option Value} {h : Heap} (X : K.In h) (G : h.Ns mainGlobals mg) (c : He.SaysD fa fn K) : TT mg := ⟨He.free_ok X G (c.fact 17 (f := .free "len") rfl), He.free_ok X G (c.fact 18 (f := .free "int") rfl), He.free_ok X G (c.fact 19 (f := .free "bool") rfl), He.free_ok X G (c.fact 20 (f := .free "str") rfl), He.free_ok X G (c.fact 21 (f := .free "list") rfl), He.free_ok X G (c.fact 22 (f := .free "tuple") rfl), He.free_ok X G (c.fact 23 (f := .free "range") rfl), He.free_ok X G (c.fact 24 (f := .free "max") rfl), He.free_ok X G (c.fact 25 (f := .free "min") rfl), He.free_ok X G (c.fact 26 (f := .free "sum") rfl), He.free_ok X G (c.fact 27 (f := .free "isinstance") rfl), He.free_ok X G (c.fact 28 (f := .free "sorted") rfl), He.free_ok X G (c.fact 29 (f := .free "repr") rfl), He.free_ok X G (c.fact 30 (f := .free "abs") rfl), He.free_ok X G (c.fact 31 (f := .free "enumerate") rfl)⟩

theorem facts {P : Program} {w : World} {K : PySem.W.Frag} {h : Heap} {mg : Str → Option Value} {f : Addr} (X : K.In h) (G : h.Ns mainGlobals mg) (hfa : mg ("law" : Str) = some (.ref f)) (c : He.SaysD fa fn K) :
    ∃ fd : FuncData, (∀ (s : Shared) (v : Value), BindsTo s fd ⟨[v], []⟩ [("script", v)]) ∧ ∀ base : Heap, K.In base → base.Ns mainGlobals mg → FnOk P w K mg base CX0 5 f fd ["script"] (spLaw K) := by
  have A_floor_bits : At K mg "floor_bits" s_floor_bits := at_of X G c 0 rfl rfl
  have A_least_bits : At K mg "_least_bits" s_least_bits := at_of X G c 1 rfl rfl
  have A_shortest_total : At K mg "shortest_total" s_shortest_total := at_of X G c 2 rfl rfl
  have A_law_whole : At K mg "_law_whole" s_law_whole := at_of X G c 3 rfl rfl
  have A_law_cell : At K mg "_law_cell" s_law_cell := at_of X G c 4 rfl rfl
  have A_law_digits : At K mg "_law_digits" s_law_digits := at_of X G c 5 rfl rfl
  have A_law_bit_words : At K mg "_law_bit_words" s_law_bit_words := at_of X G c 6 rfl rfl
  have A_law_rooms : At K mg "_law_rooms" s_law_rooms := at_of X G c 7 rfl rfl
  have A_law_filled : At K mg "_law_filled" s_law_filled := at_of X G c 8 rfl rfl
  have A_law_uses : At K mg "_law_uses" s_law_uses := at_of X G c 9 rfl rfl
  have A_law_tight : At K mg "_law_tight" s_law_tight := at_of X G c 10 rfl rfl
  have A_law_is_due : At K mg "_law_is_due" s_law_is_due := at_of X G c 11 rfl rfl
  have A_law_choice_holds : At K mg "_law_choice_holds" s_law_choice_holds := at_of X G c 12 rfl rfl
  have A_law_states : At K mg "_law_states" s_law_states := at_of X G c 13 rfl rfl
  have A_law_asked : At K mg "_law_asked" s_law_asked := at_of X G c 14 rfl rfl
  have A_law_one_standing_holds : At K mg "_law_one_standing_holds" s_law_one_standing_holds := at_of X G c 15 rfl rfl
  have A_law : At K mg "law" s_law := at_of X G c 16 rfl rfl
  have T : TT mg := tt_of X G c
  obtain ⟨f0, fd, F, hm⟩ := A_law.ex
  have e := hfa.symm.trans hm
  cases e
  have b := FunD.bindsA (ps := ["script"]) F fun _ _ _ _ _ _ us hl => match us, hl with | [_], _ => rfl
  refine ⟨fd, fun s v => b s [v] rfl, fun base _ _ => ?_⟩
  have D1 := ok_least_bits (P := P) (w := w) (base := base) T A_least_bits
  have D2 := ok_floor_bits D1 A_floor_bits
  have D3 := ok_law_whole (P := P) (w := w) (base := base) T A_law_whole
  have D4 := ok_law_cell (P := P) (w := w) (base := base) T A_law_cell
  have D5 := ok_law_digits (P := P) (w := w) (base := base) T A_law_digits
  have D6 := ok_law_bit_words (P := P) (w := w) (base := base) T A_law_bit_words
  have D7 := ok_law_rooms (P := P) (w := w) (base := base) T A_law_rooms
  have D8 := ok_law_filled (P := P) (w := w) (base := base) T A_law_filled
  have D9 := ok_law_uses (P := P) (w := w) (base := base) T A_law_uses
  have D10 := ok_law_tight (P := P) (w := w) (base := base) T A_law_tight
  have D11 := ok_law_is_due D2 D3 (kd_tot D2) T A_law_is_due
  have D12 := ok_law_choice_holds D2 D3 T A_law_choice_holds
  have D13 := ok_law_asked D7 T A_law_asked
  have D14 := ok_law_states (P := P) (w := w) (base := base) T A_law_states
  have D15 := ok_shortest_total (P := P) (w := w) (base := base) A_shortest_total
  have D16 := ok_law_one D15 D3 D8 D11 T A_law_one_standing_holds
  have DL := ok_law D4 D5 D13 D2 D11 D14 D16 D8 D6 D9 D12 D7 D10 T A_law
  obtain ⟨f1, fd1, F1, FO, hm1, _⟩ := DL.ex
  have e := hm.symm.trans hm1
  cases e
  have e2 : fd = fd1 := fd_one F F1
  rw [e2]
  exact FO
end My
open PySem PySem.W PySem.Calls PyProof.Rows
theorem PySem.Challenge.cw_unpressed_k54_floor_bits_holds : PySem.Challenge.rw_unpressed_k54_floor_bits.Holds := by
  w_on; o_law
  refine HandSHeadRun.head_any (r := OpenLaw.row PySem.Challenge.rw_unpressed_k54_floor_bits) (q := view (OpenLaw.row PySem.Challenge.rw_unpressed_k54_floor_bits).prog [19]) (H := My.hk) (ob := My.ob) (M := 3000) (loose := My.loose) (d := HandSHeadRun.topDef (OpenLaw.row PySem.Challenge.rw_unpressed_k54_floor_bits).prog 19) (kwd := []) My.ob_eq
    (by kernel_rfl) (fun s => by kernel_rfl) My.run (by kernel_rfl) (by kernel_rfl) (by kernel_rfl) (by rfl) (by first | assumption | decide +kernel) (by decide +kernel) ⟨rfl, rfl, rfl, rfl, rfl, by decide +kernel⟩ ?hw ?hc
  case hw => w_witness2
  case hc =>
    refine L2.walk_ofE (l := PySem.Challenge.rw_unpressed_k54_floor_bits) (n := 63) (k := 5) (x := "script") (CX := L2.CX0) rfl (by decide) (by kernel_rfl) ⟨rfl, by decide, by decide⟩ ?F (fun _ _ _ _ z => z)
    intro w mg fa h Y G hmg0
    obtain ⟨K, KX, c⟩ := Y
    have hmg : mg ("law" : PySem.Str) = some (.ref fa) := by
      have e : (HandSHeadRun.topDef (OpenLaw.row PySem.Challenge.rw_unpressed_k54_floor_bits).prog 19).name = ("law" : PySem.Str) := by kernel_rfl
      rw [← e]
      exact hmg0
    obtain ⟨fd, hb, hF⟩ := My.facts (P := (PySem.Challenge.rw_unpressed_k54_floor_bits).prog) (w := w) KX G hmg c
    exact ⟨K, fd, My.spLaw K, KX, hb, fun H a ns hl _ hS => ⟨a, ns, rfl, hS, fun _ => rfl⟩, hF⟩
