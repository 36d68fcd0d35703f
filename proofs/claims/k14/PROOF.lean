import PyProof.Rows.All
import Wide.All
import OpenK.AllK
import Wide.FinOn
import HandS.ForMost
import HandS.Evl
import KE.KStateDown
import HandS.Wide
import HandS.WideBits
import HandS.StrMore
import HandS.SortInts
import HandS.IsInst
import HandS.FStr
import HandS.Conv
import HandS.Defaults
import HandS.WordsExc
import HandS.Head0
import HandS.Head1
import HandS.Head2
import HandS.HeadEnd
import HandS.HeadHook1
import HandS.HeadHook2
import HandS.Gcd
import HandS.Head3
import Flt.RightSqrt
import HandS.Codes
import HandS.Dict
import PyProof.StrOps2
import HandS.Words
import HandS.Flt
import HandS.RaiseMore
import KE.GoesMore
import KE.GoesEnum
import PyProof.EnumMake
import HandS.Iter
import HandS.TryOnly
import HandS.Style
import PyProof.Rows.StrRev
import PyProof.Rows.StrLawsPart
import PyProof.ListIndex
import HandS.TupAny
import HandS.HeadHook4
import PySem.Challenge.RW_unpressed_k14_whole_within_longer_texts
set_option Elab.async false
set_option maxRecDepth 100000
set_option maxHeartbeats 4000000
namespace My
open PySem PySem.W PySem.Calls PyProof.Rows PySem.Builtin PySem.Builtin.Str PySem.Builtin.Int
/-- a number's digits to base two -/
def binT (n : Nat) : PySem.Str := ⟨((Nat.toDigits 2 n).map Char.toNat).toArray⟩
theorem fmt_b {a : Int} {t : Tok} (h0 : 0 ≤ a) (hL : (binT a.natAbs).length ≤ sizeLine) (u : Tok) : Meets («int.__format__» ⟨[.int a t, .str (⟨#[98]⟩ : PySem.Str) u], []⟩) (fun _ R s => ∀ t' k, R (.ok (.ret (.str (binT a.natAbs) t'))) { s with toks := k }) := by
  apply KPc.meets_of
  intro prog w A s Q E hq
  unfold Builtin.«int.__format__»
  refine wpAny_bind (wpAny_of_eq (a := (_, _)) rfl ?_)
  refine wpAny_bind (wpAny_of_eq (a := _) rfl ?_)
  kxf_if
  refine wpAny_bind (wpAny_typeNameOf (T := "str") (typeIs_str _ _ _) (by decide) fun _ => ?_)
  refine wpAny_bind (wpAny_of_eq (a := some _) rfl ?_)
  kxf_if
  kxf_if
  refine wpAny_bind (wpAny_typeNameOfCut_int ?_)
  (repeat kxf_if)
  refine (fun (e : _ = binT a.natAbs) => KXf.ret_text e (by rw [e]; exact hL) hq) ?e
  case e =>
    have hn : decide (a < 0) = false := decide_eq_false (by omega)
    have hD : Nat.toDigits 2 a.natAbs ≠ [] := Nat.toDigits_ne_nil
    rw [hn]
    unfold binT
    generalize Nat.toDigits 2 a.natAbs = D at hD ⊢
    conv => lhs; whnf
    have z : ∀ n : Nat, (-1 - (n : Int)).toNat = 0 := fun n => by omega
    simp [hD, Option.isNone, List.head?, z]
    trace_state
end My

set_option Elab.async false
set_option linter.all false
set_option maxRecDepth 100000
set_option maxHeartbeats 4000000
namespace My
open PySem PySem.Spec PyProof.Rows L2 Evl
/-! ### defs at their names -/
structure Dn (P : Program) (w : World) (K : PySem.W.Frag) (mg : Str → Option Value) (base : Heap) (k : Nat) (x : Str) (st : Stmt) (ps : List Str) (sp : Sp) : Prop where
  ex : ∃ (f : Addr) (fd : FuncData), FunD K x x (defArgs st) (defBody st) (defScope st) [] [] f fd ∧ FnOk P w K mg base CX0 k f fd ps sp ∧ mg x = some (.ref f) ∧ Binds K fd ps []
/-- the same for a call by keywords ks -/
structure Kd (P : Program) (w : World) (K : PySem.W.Frag) (mg : Str → Option Value) (base : Heap) (k : Nat) (x : Str) (n : Nat) (ks : List Str) (gV : List V → List V → List V) (sp : Sp) : Prop where
  ex : ∃ (f : Addr) (fd : FuncData) (ps : List Str) (g : List Value → List Value → List Value), FnOk P w K mg base CX0 k f fd ps sp ∧ mg x = some (.ref f) ∧ PySem.W.keepIn K (.ref f) = true ∧ KBn K fd ps n ks g gV
abbrev FnP (K : PySem.W.Frag) (x : Str) (st : Stmt) (f : Addr) (fd : FuncData) : Prop := FunD K x x (defArgs st) (defBody st) (defScope st) [] [] f fd
structure At (K : PySem.W.Frag) (mg : Str → Option Value) (x : Str) (st : Stmt) : Prop where
  ex : ∃ (f : Addr) (fd : FuncData), FnP K x st f fd ∧ mg x = some (.ref f)
section
variable {P : Program} {w : World} {K : PySem.W.Frag} {mg : Str → Option Value} {base : Heap} {x : Str} {st : Stmt} {N ps : List Str} {k : Nat} {sp : Sp}
theorem FunD.kbn {K : PySem.W.Frag} {x qual : Str} {params : Arguments} {body : List Stmt} {scope : Scope} {kws : List (Str × V)} {f : Addr} {fd : FuncData} {ps : List Str} (F : FunD K x qual params body scope [] kws f fd) (n : Nat) (ks : List Str) (g : List Value → List Value → List Value) (gV : List V → List V → List V)
    (h : ∀ (kV doc pm : Value) (an : Option Addr) (cdv ct : Value) (us ws : List Value), us.length = n → ws.length = ks.length → bindArgs (PySem.W.fnOf x qual params body scope .none kV doc pm an cdv ct) ⟨us, ks.zip ws⟩ = pure (ps.zip (g us ws)))
    (hr : ∀ {vs : List V} {us : List Value} {zs : List V} {ws : List Value}, Vals vs us → Vals zs ws → Vals (gV vs zs) (g us ws)) : KBn K fd ps n ks g gV := by
  obtain ⟨oc, od, dV, kV, doc, pm, an, cdv, ct, osl, rfl, lk, hcd, hD, hK⟩ := F.ex
  rcases hD with ⟨_, rfl⟩ | ⟨e, _⟩
  · exact ⟨fun s us ws _ l1 l2 => .of_eq (h kV doc pm an cdv ct us ws l1 l2), hr⟩
  · exact absurd rfl e
theorem dn_ok (F : At K mg x st) (S : FnScope N ps (defScope st))
    (hb : ∀ (kV doc pm : Value) (an : Option Addr) (cdv ct : Value) (us : List Value), us.length = ps.length → bindArgs (PySem.W.fnOf x x (defArgs st) (defBody st) (defScope st) .none kV doc pm an cdv ct) ⟨us, []⟩ = pure (ps.zip us))
    (len : ∀ vs H Q E, sp vs H Q E → vs.length = ps.length)
    (hbody : ∀ (f : Addr) (cdv : Value) (A : Around) (outer : List Env) (s : Shared) (H : Hp) (vs : List V) (Q : VK) (E : XK), Room k (A.deeper (envOfC x (defScope st) s.heap.objs.size f cdv)) → sp vs H Q E →
      ∃ t, PSs (cxOf CX0 P w K mg base N x (defScope st) f cdv A outer s H E).nox (defBody st) t ∧ t { nx := fun _ H' => Q .non H', rt := Q } (start N vs) H) : Dn P w K mg base (k + 1) x st ps sp := by
  obtain ⟨f, fd, F, g⟩ := F.ex
  refine ⟨f, fd, F, FunD.ok F S len (fun cdv A outer s H vs Q E hr h => ?_), g, F.bindsN hb⟩
  obtain ⟨t, h1, h2⟩ := hbody f cdv A outer s H vs Q E hr h
  exact ⟨t, PSs.nox h1, h2⟩
/-- one function object stands at one address -/
theorem fd_one {K : PySem.W.Frag} {x : Str} {st st' : Stmt} {f : Addr} {fd fd' : FuncData} (F : FnP K x st f fd) (F' : FnP K x st' f fd') : fd = fd' := by
  obtain ⟨oc, od, dV, kV, doc, pm, an, cdv, ct, osl, h1, lk, _⟩ := F.ex
  obtain ⟨oc2, od2, dV2, kV2, doc2, pm2, an2, cdv2, ct2, osl2, h2, lk2, _⟩ := F'.ex
  rw [lk] at lk2
  simp only [Option.some.injEq, Obj.mk.injEq, Data.func.injEq] at lk2
  exact lk2.2.2.1
/-- a call by keywords of a def that keeps its promise -/
theorem kd_of (D : Dn P w K mg base k x st ps sp) (n : Nat) (ks : List Str) (g : List Value → List Value → List Value) (gV : List V → List V → List V)
    (h : ∀ (kV doc pm : Value) (an : Option Addr) (cdv ct : Value) (us ws : List Value), us.length = n → ws.length = ks.length → bindArgs (PySem.W.fnOf x x (defArgs st) (defBody st) (defScope st) .none kV doc pm an cdv ct) ⟨us, ks.zip ws⟩ = pure (ps.zip (g us ws)))
    (hr : ∀ {vs : List V} {us : List Value} {zs : List V} {ws : List Value}, Vals vs us → Vals zs ws → Vals (gV vs zs) (g us ws)) : Kd P w K mg base k x n ks gV sp := by
  obtain ⟨f, fd, F, FO, g1, _⟩ := D.ex
  exact ⟨f, fd, ps, g, FO, g1, F.kp, FunD.kbn F n ks g gV h hr⟩
end
section
variable {X : Cx} {k j n : Nat} {x : Str} {p pos : Pos} {ps ks : List Str} {sp : Sp} {gV : List V → List V → List V} {e : Expr} {es : List Expr} {kws : List Keyword} {t tk : TA}
theorem pe_dn {st : Stmt} (D : Dn X.prog X.w X.K X.mg X.base k x st ps sp) (hr : Room j X.A) (hk : k ≤ j) (hg : Gl X x) (ha : PA X (e :: es) t) (hdb : (x == ("__debug__" : Str)) = false := by decide)
    (he : starEach (e :: es) X.env = (false, eval e X.env) :: starEach es X.env := by rfl) (hpl : (backTo pos (starEach es X.env)).any (·.1) = false := by rfl) : PE X (.Call (.Name x p) (e :: es) [] pos) (tCall sp [] E0 t) := by
  obtain ⟨f, fd, FD, F, hm, hb⟩ := D.ex
  exact pe_call F (hr.mono hk) hg hm FD.kp hb .nil pass0 ha (hdb := hdb) (he := he) (hpl := hpl)
theorem pe_kd (D : Kd X.prog X.w X.K X.mg X.base k x 0 ks gV sp) (hr : Room j X.A) (hk' : k ≤ j) (hg : Gl X x) (hkw : PK X kws tk)
    (hall : (backToKw pos (keywordEach kws X.env)).all (·.1.isSome) = true := by rfl) (hks : (backToKw pos (keywordEach kws X.env)).filterMap (·.1) = ks := by rfl)
    (hdb : (x == ("__debug__" : Str)) = false := by decide)
    (hpl : ((backTo pos (starEach [] X.env)).any (·.1) || (backToKw pos (keywordEach kws X.env)).any (·.1.isNone)) = false := by rfl) :
    PE X (.Call (.Name x p) [] kws pos) (tCallN 0 ks.length sp gV E0 tNil tk) := by
  obtain ⟨f, fd, ps, g, F, hm, hk, hb⟩ := D.ex
  refine ⟨fun pins s σ H Q I h => ?_⟩
  refine wpAny_Call_Name_kw (ld_glob I hg hm ?_ hdb)
  refine PySem.W.callWith_KW0 (h₀ := X.base) I.ok.mod.kin hk hall (thn (hkw.run pos pins s σ H _ I h) fun ws s2 ⟨zs, H2, I2, rz, l1, l2, q2⟩ => ⟨I2.kIn, ?_⟩) hpl
  rw [hks]
  exact run_fnN F (hr.mono hk') hb pass0 I2 .nil rz l1 l2 q2
/-- a built-in type by its name -/
theorem pe_tyn (T : String) {x : Str} {pos : Pos} (hg : Gl X x) (hm : X.mg x = none) (hv : bootBuiltins x = some (.type T)) (hn : x ≠ "__name__" := by decide) (hd : (x == ("__debug__" : Str)) = false := by decide) : PE X (.Name x pos) (tC (.ty T)) := pe_bltn hg hm hv (show RelV (.ty T) (.type T) from rfl) hn hd
/-- f'{x:b}' of a number not below 0 -/
def tFmtB (te : TE) : TE := fun σ H Q => te σ H fun x H1 => ∃ i : Int, x = .int i ∧ 0 ≤ i ∧ (binT i.natAbs).length ≤ sizeLine ∧ Q (.str (binT i.natAbs)) H1
theorem pe_fmtB {te : TE} {pos p1 p2 : Pos} {j : Nat} (he : PE X e te) : PE X (.FormattedValue e (-1) (some (.JoinedStr [.Constant (.str "b") j p1] p2)) pos) (tFmtB te) := by
  refine ⟨fun pins s σ H Q I h => ?_⟩
  refine wpAny_FormattedValue_spec (thn (he.run pins s σ H _ I h) fun v s1 hv => ?_)
  obtain ⟨x, H1, I1, r1, i, rfl, h0, hz, q⟩ := hv
  obtain ⟨t, rfl⟩ := r1
  have hs : PE X (.JoinedStr [.Constant (.str "b") j p1] p2) (tC (.str "b")) := pe_joined1 pe_str
  refine thn (hs.run pins s1 σ H1 (fun v H' => v = .str "b" ∧ H' = H1) I1 ⟨rfl, rfl⟩) fun v2 s2 hv2 => ?_
  obtain ⟨y, H2, I2, r2, rfl, rfl⟩ := hv2
  obtain ⟨t2, rfl⟩ := r2
  refine ⟨_, _, rfl, PySem.W.KXf.field_int (spec' := ⟨#[98]⟩) (by decide +kernel) rfl (by decide) (fun u => fmt_b h0 hz u) fun t' k => ?_⟩
  exact ⟨.str _, _, I2.tok _, ⟨_, rfl⟩, q⟩
end
/-! ### readings -/
section
variable {K : PySem.W.Frag} {σ : L2.St} {H : Hp} {ta tb te : TE} {x y z v : V} {D : Ends} {tu tz : TS}
def rInt1 : List V → Hp → VK → Prop := fun xs H Q => (∃ i, xs = [.int i] ∧ Q (.int i) H) ∨ ∃ k, xs = [.bl k] ∧ Q (.int (if k then 1 else 0)) H
theorem ev_int {i : Int} (h : Ev te σ H (.int i)) : Ev (tCB rInt1 (tCons te tNil)) σ H (.int i) := fun H1 e Q q => h H1 e _ fun H2 e2 => Or.inl ⟨i, rfl, q H2 e2⟩
theorem ev_intB {b : Bool} (h : Ev te σ H (.bl b)) : Ev (tCB rInt1 (tCons te tNil)) σ H (.int (if b then 1 else 0)) := fun H1 e Q q => h H1 e _ fun H2 e2 => Or.inr ⟨b, rfl, q H2 e2⟩
def rMin2 : List V → Hp → VK → Prop := fun xs H Q => ∃ i j, xs = [.int i, .int j] ∧ Q (.int (if j < i then j else i)) H
theorem ev_min2 {i j : Int} (ha : Ev ta σ H (.int i)) (hb : Ev tb σ H (.int j)) : Ev (tCB rMin2 (tCons ta (tCons tb tNil))) σ H (.int (if j < i then j else i)) := fun H1 e Q q =>
  ha H1 e _ fun H2 e2 => hb H2 (e.trans e2) _ fun H3 e3 => ⟨i, j, rfl, q H3 (e2.trans e3)⟩
theorem ev_isi {c : V} {t u : Value} {b : Bool} (ha : Ev ta σ H x) (hb : Ev tb σ H c) (k : ClsV c u) (ty : ∀ H1, Ex H H1 → TyX K H1 x t) (e : PySem.W.kitOne K t u = some b) : Ev (tCB (rIsi K) (tCons ta (tCons tb tNil))) σ H (.bl b) := fun H1 e1 Q q =>
  ha H1 e1 _ fun H2 e2 => hb H2 (e1.trans e2) _ fun H3 e3 => ⟨x, c, t, u, b, rfl, k, ty H3 ((e1.trans e2).trans e3), e, q H3 (e2.trans e3)⟩
theorem ev_lenStr {s : Str} (ha : Ev ta σ H (.str s)) (hs : s.length ≤ sizeLine) : Ev (tCB (fun xs H Q => ∃ z : Str, xs = [.str z] ∧ z.length ≤ sizeLine ∧ Q (.int z.length) H) (tCons ta tNil)) σ H (.int (s.length : Int)) := fun H1 e Q q =>
  ha H1 e _ fun H2 e2 => ⟨s, rfl, hs, q H2 e2⟩
theorem ev_bits {i : Int} (h : Ev te σ H (.int i)) : Ev (tBits te) σ H (.int (Builtin.Int.intBits i : Nat)) := fun H1 e Q q => h H1 e _ fun H2 e2 => ⟨i, rfl, q H2 e2⟩
theorem ev_fmtB {i : Int} (h : Ev te σ H (.int i)) (h0 : 0 ≤ i) (hz : (binT i.natAbs).length ≤ sizeLine) : Ev (tFmtB te) σ H (.str (binT i.natAbs)) := fun H1 e Q q => h H1 e _ fun H2 e2 => ⟨i, rfl, h0, hz, q H2 e2⟩
def rZfill : V → List V → Hp → VK → Prop := fun x xs H Q => ∃ (a : Str) (i : Int), x = .str a ∧ xs = [.int i] ∧ PadOk i = true ∧ Q (.str (Txt.zfill a i)) H
theorem ev_zfill {a : Str} {i : Int} (ha : Ev ta σ H (.str a)) (hb : Ev tb σ H (.int i)) (hp : PadOk i = true) : Ev (tBM K "str" rZfill ta (tCons tb tNil)) σ H (.str (Txt.zfill a i)) := fun H1 e Q q =>
  ha H1 e _ fun H2 e2 => ⟨rfl, hb H2 (e.trans e2) _ fun H3 e3 => ⟨a, i, rfl, rfl, hp, q H3 (e2.trans e3)⟩⟩
theorem ev_callN {n m : Nat} {sp : Sp} {gV : List V → List V → List V} {E : XK} {t tk : TA} {vs zs : List V} (h : EvA t σ H vs) (hk : EvA tk σ H zs) (h1 : vs.length = n) (h2 : zs.length = m) (hs : SpV sp (gV vs zs) H z) : Ev (tCallN n m sp gV E t tk) σ H z := fun H1 e Q q =>
  h H1 e _ fun H2 e2 => hk H2 (e.trans e2) _ fun H3 e3 => ⟨h1, h2, hs H3 ((e.trans e2).trans e3) Q (fun H4 e4 => q H4 ((e2.trans e3).trans e4)) E⟩
/-- two new lists one behind the other -/
theorem el_cat {xs ys : List V} (ha : EvL ta σ H xs) (hb : EvL tb σ H ys) (hz : xs.length + ys.length ≤ 100000) : EvL (tOp rCat ta tb) σ H (xs ++ ys) := fun H1 e Q q =>
  ha H1 e _ fun p H2 hp e2 h2 => hb H2 (e.trans e2) _ fun r H3 hr e3 h3 => ⟨p, r, xs, ys, rfl, rfl, e3 p _ h2, h3, sz_of hz, fun l hl => q l _ (fresh_back (e2.trans e3) hl) ((e2.trans e3).trans (Ex.new hl)) upd_same⟩
theorem el_catV {xs ys : List V} {b : Addr} (ha : EvL ta σ H xs) (hb : Ev tb σ H (.ref b)) (hy : H b = some (.lst ys)) (hz : xs.length + ys.length ≤ 100000) : EvL (tOp rCat ta tb) σ H (xs ++ ys) := fun H1 e Q q =>
  ha H1 e _ fun p H2 hp e2 h2 => hb H2 (e.trans e2) _ fun H3 e3 => ⟨p, b, xs, ys, rfl, rfl, e3 p _ h2, ((e.trans e2).trans e3) b _ hy, sz_of hz, fun l hl => q l _ (fresh_back (e2.trans e3) hl) ((e2.trans e3).trans (Ex.new hl)) upd_same⟩
end
end My

set_option Elab.async false
set_option linter.all false
set_option maxRecDepth 100000
set_option maxHeartbeats 4000000
namespace My
open PySem PySem.Spec PyProof.Rows L2 Evl
/-! ### a law's def, called where no text of an object is under way -/
structure FnG (P : Program) (w : World) (K : PySem.W.Frag) (mg : Str → Option Value) (base : Heap) (CX : CXT) (k : Nat) (f : Addr) (fd : FuncData) (ps : List Str) (sp : Sp) : Prop where
  run : ∀ (A : Around) (outer : List Env) (s : Shared) (H : Hp) (args : Args) (us : List Value) (vs : List V) (Q : VK) (E : XK), Room k A → A.guards = some [] → Env0 P w K mg base A outer s H → BindsTo s fd args (ps.zip us) → Vals vs us → sp vs H Q E →
    codeAny (model P w) A (.call (.ref f) args) (CR CX outer P w H s Q E) s
theorem guards_deeper (A : Around) (env : Env) : (A.deeper env).guards = A.guards := rfl
section
variable {P : Program} {w : World} {K : PySem.W.Frag} {mg : Str → Option Value} {base : Heap}
theorem fnG_of {k : Nat} {f : Addr} {fd : FuncData} {x : Str} {st : Stmt} {N ps : List Str} {sp : Sp} (F : FnP K x st f fd) (S : FnScope N ps (defScope st)) (len : ∀ vs H Q E, sp vs H Q E → vs.length = ps.length)
    (body : ∀ (cdv : Value) (A : Around) (outer : List Env) (s : Shared) (H : Hp) (vs : List V) (Q : VK) (E : XK), Room k (A.deeper (envOfC x (defScope st) s.heap.objs.size f cdv)) → A.guards = some [] → sp vs H Q E →
      ∃ t, PSs (cxOf CX0 P w K mg base N x (defScope st) f cdv A outer s H E).nox (defBody st) t ∧ t { nx := fun _ H' => Q .non H', rt := Q } (start N vs) H) : FnG P w K mg base CX0 (k + 1) f fd ps sp := by
  obtain ⟨oc, od, dV, kV, doc, pm, an, cdv, ct, osl, rfl, lk, hcd, _, _⟩ := F.ex
  constructor
  intro A outer t H args us vs Q E room gd env bind rel hsp
  have hlen := len vs H Q E hsp
  have inK : K.In t.heap := env.mod.kin.keeps fun b o z => (env.bs b o z).1
  have noLim : t.heap.NoLimit := env.mod.nolimit.keeps fun b o z => (env.bs b o z).1
  refine codeAny_call_function room.depth (inK _ _ lk) rfl S.co S.gen rfl (PySem.W.codeRec_of inK hcd) (bind _ _ _ _ ?_)
  refine wpAny_newFunctionEnv_cells S.kind (fun y hy => ?_) fun env' e1 t1 inCall => ?_
  · obtain ⟨n, v⟩ := y
    rcases S.par n (List.of_mem_zip hy).1 with z | z
    · exact Or.inl z
    · exact Or.inr ⟨z, PySem.W.cellsFrom_some _ _ _ (Or.inl z)⟩
  subst e1
  refine ⟨noLim.keeps inCall.toInCall.keep, codeAny_func ?_⟩
  obtain ⟨tt, ht0, hq⟩ := body cdv A outer t H vs Q E (room.deeper _) gd hsp
  have ht := PSs.nox ht0
  have J0 : Inv (cxOf CX0 P w K mg base N x (defScope st) f cdv A outer t H E) [] (start N vs) H t1 := inv_start S room.hd env hlen rel inCall
  refine wpAny_mono (ht.run [] t1 (start N vs) H _ J0 hq) (fun fl t2 hs => ?_) fun _ _ z => z
  cases fl with
  | ret u =>
    obtain ⟨v, σ', H', J, rv, q⟩ := hs
    exact ⟨v, H', J.os, J.bare, J.base, J.hok, rv, q⟩
  | next =>
    obtain ⟨σ', H', J, q⟩ := hs
    exact ⟨V.non, H', J.os, J.bare, J.base, J.hok, rfl, q⟩
  | brk =>
    obtain ⟨_, _, _, q⟩ := hs
    exact q.elim
  | cont =>
    obtain ⟨_, _, _, q⟩ := hs
    exact q.elim
/-- the law called on its script -/
theorem lawG_call {k : Nat} {fa a : Addr} {fd : FuncData} {x : Str} {mb : Str → Option Value} {sp : Sp} {t : Shared} {vs : List Value} {ns : List Int}
    (inK : K.In t.heap) (gN : t.heap.Ns mainGlobals mg) (bN : t.heap.Ns builtinsNs mb) (bI : ∀ y : Str, y ≠ "__name__" → mb y = bootBuiltins y) (noLim : t.heap.NoLimit) (gE : t.gens = #[])
    (hobj : t.heap.get? a = some { cls := .type "list", data := .seq vs.toArray }) (hi : IntsAre vs ns) (hl : ns.length ≤ sizeLine) (room : Room k callerA)
    (F : ∀ base : Heap, K.In base → base.Ns mainGlobals mg → FnG P w K mg base CX0 k fa fd [x] sp) (bind : ∀ (s : Shared) (u : Value), BindsTo s fd ⟨[u], []⟩ [(x, u)])
    (hsp : ∀ H : Hp, SqL K H a (ns.map V.int) → sp [.ref a] H (fun v _ => v = .bl true) fun _ _ _ => False) :
    codeAny (model P w) callerA (.call (.ref fa) ⟨[.ref a], []⟩) (fun r s' => r = .ok (.ret (.bool true)) ∧ OldK t.heap s'.heap ∧ s'.os = t.os ∧ AllBare s'.gens) t := by
  have go : ∀ H : Hp, (∀ b, H b ≠ none → b = a ∧ K.lookup a = none ∧ ∃ ob xs, H a = some (HO.frz ob (.lst xs))) → SqL K H a (ns.map V.int) → HOk P w H t.heap →
      codeAny (model P w) callerA (.call (.ref fa) ⟨[.ref a], []⟩) (fun r s' => r = .ok (.ret (.bool true)) ∧ OldK t.heap s'.heap ∧ s'.os = t.os ∧ AllBare s'.gens) t := by
    intro H hH hS hok
    have free : ∀ {b : Addr} {o : Obj} {es : Array DictEntry} {ep : Nat}, t.heap.get? b = some o → o.data = .dict es ep → H b = none := by
      intro b o es ep g d
      by_cases z : H b = none
      · exact z
      · obtain ⟨rfl, _⟩ := hH b z
        rw [hobj] at g
        cases g
        cases (show Data.seq vs.toArray _ = Data.dict es ep from d)
    have ns' : ∀ {b : Addr} {m : Str → Option Value}, t.heap.Ns b m → (hidT t.heap H).Ns b m := by
      rintro b m ⟨o, es, ep, g, d, r⟩
      exact ⟨o, es, ep, hidT_get g (free g d), d, r⟩
    have inB : K.In (hidT t.heap H) := by
      intro b o g
      refine hidT_get (inK b o g) ?_
      by_cases z : H b = none
      · exact z
      · obtain ⟨rfl, z2, _⟩ := hH b z
        rw [z2] at g
        cases g
    have md : Mod K mg (hidT t.heap H) := by
      obtain ⟨mc, h1, h2⟩ := noLim
      exact ⟨inB, ns' gN, ⟨mb, ns' bN, bI⟩, ⟨mc, ns' h1, h2⟩⟩
    have env : Env0 P w K mg (hidT t.heap H) callerA [] t H := ⟨rfl, md, fun b o g => of_hidT g, Nat.le_of_eq (hidT_size _ _), trivial, fun b hb => (List.not_mem_nil hb).elim, hok, .of_eq gE⟩
    have run := (F _ inB (ns' gN)).run callerA [] t H ⟨[.ref a], []⟩ [.ref a] [.ref a] _ _ room rfl env (bind t (.ref a)) (.cons rfl .nil) (hsp H hS)
    refine codeAny_mono run fun r s' h => ?_
    match r, h with
    | .ok (.ret u), h =>
      obtain ⟨v, H', os, bare, un, hok', rel, q⟩ := h
      cases (show v = V.bl true from q)
      obtain rfl : u = Value.bool true := rel
      refine ⟨rfl, OldK.of_keep fun b o g => ?_, os, bare⟩
      by_cases z : H b = none
      · exact un.keep b o g z (fun c => (List.not_mem_nil c).elim) (fun c => (List.not_mem_nil c).elim)
      · obtain ⟨rfl, _, ob, xs, z2⟩ := hH b z
        have z3 := un.frzs b ob _ z2
        obtain ⟨g1, _⟩ := hok b _ z2
        obtain ⟨g2, _⟩ := hok' b _ z3
        rw [g] at g1
        cases g1
        exact g2
  have rel := vals_ints hi
  have lenV := hi.length
  by_cases hk : K.lookup a = none
  · refine go (fun b => if b = a then some (.frz { cls := .type "list", data := .seq vs.toArray } (.lst (ns.map V.int))) else none) (fun b z => ?_) (Or.inl (Or.inr ⟨_, if_pos rfl⟩)) (fun b u z => ?_)
    · have e : b = a := by
        by_cases e : b = a
        · exact e
        · exact (z (if_neg e)).elim
      exact ⟨e, hk, _, _, if_pos rfl⟩
    · by_cases e : b = a
      · have z' := (if_pos e).symm.trans z
        cases z'
        subst e
        exact ⟨hobj, by rw [List.length_map]; exact hl, vs, _, rel, hobj⟩
      · have z' := (if_neg e).symm.trans z
        cases z'
  · obtain ⟨o, ho⟩ := Option.ne_none_iff_exists'.mp hk
    have g := inK a o ho
    rw [hobj] at g
    cases g
    refine go (fun _ => none) (fun b z => (z rfl).elim) (Or.inr ⟨_, vs.toArray, _, ho, rfl, rfl, rfl, by rw [List.size_toArray, lenV]; exact hl, by simpa using rel⟩) (fun b u z => ?_)
    cases (show (none : Option HO) = some u from z)
end
theorem walkG {l : PySem.W.OpenLaw} {n k : Nat} {q : Program} {loose : List Str} {XP : (Str → Option Value) → Heap → Prop} {YP : World → Heap → Prop} {d : DefRec} {x : Str}
    (hn : l.most = some n) (hn2 : n ≤ sizeLine) (hdf : d.params.defaults = []) (room : Room k callerA)
    (F : ∀ (w : World) (mg : Str → Option Value) (fa : Addr) (h : Heap), YP w h → h.Ns mainGlobals mg → mg d.name = some (.ref fa) →
      ∃ (K : PySem.W.Frag) (fd : FuncData) (sp : Sp), K.In h ∧ (∀ (s : Shared) (u : Value), BindsTo s fd ⟨[u], []⟩ [(x, u)]) ∧
        (∀ (H : Hp) (a : Addr) (ns : List Int), ns.length ≤ n → SqL K H a (ns.map V.int) → sp [.ref a] H (fun v _ => v = .bl true) fun _ _ _ => False) ∧
        ∀ base : Heap, K.In base → base.Ns mainGlobals mg → FnG l.prog w K mg base CX0 k fa fd [x] sp) :
    PySem.W.WalkO q loose XP YP l.row.toRowW d [] (fun f vs => PySem.call f vs) := by
  refine Att.attach_call hn hdf fun w s0 s1 mg mb fa o pm cd doc a vs ns G Y _ _ _ hmg hobj hints hlen hg => ?_
  obtain ⟨K, fd, sp, inK, hb, hsp, hF⟩ := F w mg fa _ Y G.T.g hmg
  exact lawG_call inK G.T.g G.T.b G.T.builtins G.T.nolimit hg hobj hints (Nat.le_trans hlen hn2) room hF hb fun H hS => hsp H a ns hlen hS
/-! ### repr of a list of ints -/
def reprInts (ns : List Int) : Str := (PyData.list (ns.map PyData.int)).shown
section
variable {X : Cx}
theorem reads_ints {h : Heap} : ∀ {ns : List Int} {its : List Value}, Vals (ns.map V.int) its → ReadsAll h its (ns.map PyData.int) []
  | [], _, .nil => .nil
  | n :: ns, _, .cons ⟨t, e⟩ r => by
    subst e
    exact .cons (.int n t) (reads_ints r)
theorem showable_ints : ∀ {ns : List Int}, (∀ n ∈ ns, n.natAbs.log2 < 1920) → PyData.showableAll (ns.map PyData.int) = true
  | [], _ => rfl
  | n :: ns, h => by
    show (decide (n.natAbs.log2 < 1920) && PyData.showableAll (ns.map PyData.int)) = true
    rw [decide_eq_true (h n List.mem_cons_self), showable_ints fun m hm => h m (List.mem_cons_of_mem _ hm)]
    rfl
def rReprL (K : PySem.W.Frag) : List V → Hp → VK → Prop := fun xs H Q => ∃ p ns, xs = [.ref p] ∧ H p = some (.lst (ns.map V.int)) ∧ (∀ n ∈ ns, n.natAbs.log2 < 1920) ∧ (reprInts ns).length ≤ sizeLine ∧ Q (.str (reprInts ns)) H
theorem depth_ints : ∀ ns : List Int, PyData.depthAll (ns.map PyData.int) ≤ 1
  | [] => by decide
  | n :: ns => by
    have h := depth_ints ns
    simp only [List.map_cons, PyData.depthAll, PyData.depth]
    omega
theorem noDict_ints : ∀ ns : List Int, PyData.hasDictAll (ns.map PyData.int) = false
  | [] => rfl
  | n :: ns => by
    have h := noDict_ints ns
    simp only [List.map_cons, PyData.hasDictAll, PyData.hasDict, h, Bool.or_self]
theorem cr_reprL {k : Nat} (hg : X.A.guards = some []) (hr : Room k X.A) : CallR X (.builtin "repr") (rReprL X.K) := by
  intro pins s σ H xs us Q I r h
  obtain ⟨p, ns, rfl, hp, hb, hz, q⟩ := h
  obtain ⟨u, rfl, ru⟩ := vals1 r
  cases (show u = Value.ref p from ru)
  obtain ⟨its, rv, pl, _⟩ := I.list (SqL.of hp)
  obtain ⟨o, n0, ho, hc, _, hd⟩ := pl
  have hd1 := depth_ints ns
  have hu := hr.units
  refine repr_of_reads' (d := .list (ns.map PyData.int)) (.list ho hc hd (by simpa using reads_ints rv)) (showable_ints hb) (fun c => by simp [PyData.hasDict, noDict_ints] at c) hg (by simp only [PyData.depth]; omega) (fun b o z => z) (fun h' u tk hk => ?_) hz
  exact ⟨.str _, H, I.kept hk, ⟨u, rfl⟩, q⟩
end
end My

set_option Elab.async false
set_option linter.all false
set_option maxRecDepth 100000
set_option maxHeartbeats 4000000
namespace My
open PySem PySem.Spec PyProof.Rows L2 Evl
section
variable {X : Cx}
theorem pip_of {op : Operator} {r : R2} (h : OpR X (inplaceOp op) r) : PIp X op r := fun pins s σ H x y v u Q I r1 r2 hh => h pins s σ H x y v u Q I r1 r2 hh
def rIsqrt : List V → Hp → VK → Prop := fun xs H Q => ∃ n : Nat, xs = [.int (n : Int)] ∧ n < 2 ^ 4000 ∧ Q (.int (Float64.isqrt n : Nat)) H
theorem cr_isqrt : CallR X (.builtin "math.isqrt") rIsqrt := by
  intro pins s σ H xs us Q I r h
  obtain ⟨n, rfl, hn, q⟩ := h
  obtain ⟨u, rfl, t, rfl⟩ := vals1 r
  have hl : ((n : Nat) : Int).toNat.log2 ≤ 3999 := by
    rw [Int.toNat_natCast]
    by_cases z : n = 0
    · subst z; decide
    · exact Nat.le_of_lt_succ ((Nat.log2_lt z).mpr hn)
  have g := PySem.W.mg_run_isqrt (n : Int) t (by omega) (by omega) (by omega)
  exact call_function_meets PySem.W.MGF.kind_isqrt PySem.W.MGF.plain_isqrt PySem.W.MGF.entry_isqrt (PySem.W.MGF.args_isqrt _) g.meets ⟨.int _, H, I.tok _, ⟨_, by rw [Int.toNat_natCast]⟩, q⟩
end
section
variable {K : PySem.W.Frag} {σ : L2.St} {H : Hp} {ta tb te : TE} {x y z v : V} {D : Ends} {tu tz : TS}
theorem ev_isqrt {n : Nat} (h : Ev te σ H (.int (n : Int))) (hn : n < 2 ^ 4000) : Ev (tCB rIsqrt (tCons te tNil)) σ H (.int (Float64.isqrt n : Nat)) := fun H1 e Q q => h H1 e _ fun H2 e2 => ⟨n, rfl, hn, q H2 e2⟩
theorem q_augR {i : Nat} {r : R2} {a : V} (hx : σ[i]? = some (some a)) (h : Ev te σ H y) (hr : RV r a y H z) (k : ∀ H1, Ex H H1 → tz D (σ.set i (some z)) H1) : tSeq (tAug i te r) tz D σ H :=
  ⟨a, hx, h H (Ex.refl H) _ fun H1 e => hr H1 e _ fun H2 e2 => k H2 (e.trans e2)⟩
theorem s_augR {i : Nat} {r : R2} {a : V} (hx : σ[i]? = some (some a)) (h : Ev te σ H y) (hr : RV r a y H z) (k : ∀ H1, Ex H H1 → D.nx (σ.set i (some z)) H1) : tAug i te r D σ H :=
  ⟨a, hx, h H (Ex.refl H) _ fun H1 e => hr H1 e _ fun H2 e2 => k H2 (e.trans e2)⟩
theorem ev_sum {ns : List Int} (h : EvL te σ H (ns.map V.int)) : Ev (tCB (rSum K) (tCons te tNil)) σ H (.int ns.sum) := fun H1 e Q q => h H1 e _ fun p H2 _ e2 h2 => ⟨p, ns, rfl, sq_of h2, q H2 e2⟩
theorem ev_reprL {ns : List Int} (h : EvL te σ H (ns.map V.int)) (hb : ∀ n ∈ ns, n.natAbs.log2 < 1920) (hz : (reprInts ns).length ≤ sizeLine) : Ev (tCB (rReprL K) (tCons te tNil)) σ H (.str (reprInts ns)) := fun H1 e Q q => h H1 e _ fun p H2 _ e2 h2 => ⟨p, ns, rfl, h2, hb, hz, q H2 e2⟩
theorem wmul {i j : Int} (hi : i.natAbs < 2 ^ 1000) (hj : j.natAbs < 2 ^ 1000) : CMulW i j := wide_mul hi hj (by decide) (by decide) (by decide)
end
end My

set_option Elab.async false
set_option linter.all false
set_option maxRecDepth 100000
set_option maxHeartbeats 4000000
namespace My
open PySem PySem.Spec PyProof.Rows L2 Evl
structure TT (mg : Str → Option Value) : Prop where
  len : mg "len" = none
  int_ : mg "int" = none
  bool_ : mg "bool" = none
  str_ : mg "str" = none
  list_ : mg "list" = none
  tuple_ : mg "tuple" = none
  range : mg "range" = none
  max : mg "max" = none
  min : mg "min" = none
  sum : mg "sum" = none
  isinstance : mg "isinstance" = none
  sorted : mg "sorted" = none
  repr : mg "repr" = none
  abs : mg "abs" = none
  enumerate : mg "enumerate" = none
/-- a loop over a text's signs -/
theorem for_str {x : Str} {g : TG} {tb : TS} {D : Ends} {σ : L2.St} {H : Hp} (Pv : Nat → L2.St → Hp → Prop) (h0 : Pv 0 σ H)
    (hs : ∀ i c σ H, x.cps[i]? = some c → Pv i σ H → g (.str ⟨#[c]⟩) σ H fun σ2 H2 => tb { D with nx := Pv (i + 1), ct := Pv (i + 1), bk := D.nx } σ2 H2) (hd : ∀ σ H, Pv x.cps.size σ H → D.nx σ H) :
    ∃ W : Nat → Nat → L2.St → Hp → Prop, (∃ m, W 0 m σ H) ∧ ∀ i m σ H, W i m σ H →
      ((Its x).stop i H ∧ D.nx σ H) ∨ ((Its x).go i H ∧ ∃ N : L2.St → Hp → Prop, (∀ σ' H', N σ' H' → ∃ m', m' < m ∧ W (i + 1) m' σ' H') ∧ ∀ y H', (Its x).yld i H y H' → g y σ H' fun σ2 H2 => tb { D with nx := N, ct := N, bk := D.nx } σ2 H2) := by
  refine ⟨fun i m σ H => m = x.cps.size - i ∧ i ≤ x.cps.size ∧ Pv i σ H, ⟨x.cps.size, by simp, Nat.zero_le _, h0⟩, ?_⟩
  rintro i m σ H ⟨rfl, hi, p⟩
  by_cases hlt : i < x.cps.size
  · refine .inr ⟨hlt, Pv (i + 1), fun σ' H' p' => ⟨x.cps.size - (i + 1), by omega, rfl, hlt, p'⟩, fun y H' z => ?_⟩
    obtain ⟨e, c, hc, rfl⟩ := z
    subst e
    exact hs i c σ _ hc p
  · have e : i = x.cps.size := by omega
    subst e
    exact .inl ⟨Nat.le_refl _, hd σ H p⟩
theorem q_forS {x : Str} {tl : TE} {g : TG} {D : Ends} {σ : L2.St} {H : Hp} {tu tz : TS} (h : Ev tl σ H (.str x)) (Pv : Nat → L2.St → Hp → Prop) (h0 : ∀ H1, Ex H H1 → Pv 0 σ H1)
    (hs : ∀ i c σ' H', x.cps[i]? = some c → Pv i σ' H' → g (.str ⟨#[c]⟩) σ' H' fun σ2 H2 => tu { D with nx := Pv (i + 1), ct := Pv (i + 1), bk := tz D } σ2 H2) (hd : ∀ σ' H', Pv x.cps.size σ' H' → tz D σ' H') : tSeq (tFor (iStr tl) g tu) tz D σ H :=
  h H (Ex.refl H) _ fun H1 e => ⟨x, rfl, for_str (D := { D with nx := tz D }) Pv (h0 H1 e) hs hd⟩
theorem vals_rev {zs : List V} {ws : List Value} (r : Vals zs ws) : Vals zs.reverse ws.reverse := by
  induction r with
  | nil => exact .nil
  | cons a r ih => rw [List.reverse_cons, List.reverse_cons]; exact ih.append (.cons a .nil)
/-! ### lists of ints in the heap -/
theorem get_map {ns : List Int} {i : Nat} {x : V} (h : (ns.map V.int)[i]? = some x) : ∃ z, ns[i]? = some z ∧ x = .int z := by
  rw [List.getElem?_map] at h
  cases e : ns[i]? with
  | none => rw [e] at h; cases h
  | some z => rw [e] at h; exact ⟨z, rfl, (Option.some.inj h).symm⟩
theorem drop_get {α : Type} {l : List α} {i : Nat} {x : α} (h : l[i]? = some x) : l.drop i = x :: l.drop (i + 1) := by
  obtain ⟨hi, e⟩ := List.getElem?_eq_some_iff.mp h
  rw [List.drop_eq_getElem_cons hi, e]
theorem at_map {ns : List Int} {i : Int} {z : Int} (h0 : 0 ≤ i) (h : ns[i.toNat]? = some z) : atI (ns.map V.int) i = some (.int z) := by
  have hi : i.toNat < ns.length := (List.getElem?_eq_some_iff.mp h).1
  have e : ixN (ns.map V.int).length i = some i.toNat := by
    unfold ixN
    rw [List.length_map, if_pos h0, if_pos (by omega)]
  unfold atI
  rw [e]
  show (ns.map V.int)[i.toNat]? = _
  rw [List.getElem?_map, h]
  rfl
/-! ### a cell -/
def seedF (ns : List Int) : Int := ns.foldl (fun s c => (s * 31 + c % 1000003) % 1000003) 17
def cellF (ns : List Int) (k : Int) : Int := if k < (ns.length : Int) then ns.getD k.toNat 0 else ((seedF ns + 7) * (k + 3) * 69621) % 2147483647
/-! ### digits -/
def digA : Int → List Int → List Int
  | _, [] => []
  | r, s :: ss => r % s :: digA (r / s) ss
def digB : Int → Int → List Int → List Int
  | _, _, [] => []
  | seed, k, s :: ss =>
    let seed' := (seed * 48271 + 974711 * k + 12345) % 2147483647
    let twice := (seed' * (seed' / 65537 + 3)) % 2147483629
    (twice / 19 % s) :: digB seed' (k + 1) ss
def digitsF (c : Int) (ss : List Int) : List Int := if 1000000000000000000 ≤ c then digA (c - 1000000000000000000) ss else digB (c % 2147483629) 0 ss
theorem digA_len : ∀ (r : Int) (ss : List Int), (digA r ss).length = ss.length
  | _, [] => rfl
  | r, s :: ss => by simp [digA, digA_len]
theorem digB_len : ∀ (r k : Int) (ss : List Int), (digB r k ss).length = ss.length
  | _, _, [] => rfl
  | r, k, s :: ss => by simp [digB, digB_len]
theorem digits_len (c : Int) (ss : List Int) : (digitsF c ss).length = ss.length := by
  unfold digitsF; split
  · exact digA_len _ _
  · exact digB_len _ _ _
/-- each digit is from 0 to its size, without it -/
def Within : List Int → List Int → Prop
  | [], [] => True
  | d :: ds, s :: ss => (0 ≤ d ∧ d < s) ∧ Within ds ss
  | _, _ => False
theorem digA_in : ∀ (r : Int) (ss : List Int), (∀ s ∈ ss, 0 < s) → Within (digA r ss) ss
  | _, [], _ => trivial
  | r, s :: ss, h => ⟨⟨Int.emod_nonneg _ (by have := h s List.mem_cons_self; omega), Int.emod_lt_of_pos _ (h s List.mem_cons_self)⟩, digA_in _ ss fun z hz => h z (List.mem_cons_of_mem _ hz)⟩
theorem digB_in : ∀ (r k : Int) (ss : List Int), (∀ s ∈ ss, 0 < s) → Within (digB r k ss) ss
  | _, _, [], _ => trivial
  | r, k, s :: ss, h => ⟨⟨Int.emod_nonneg _ (by have := h s List.mem_cons_self; omega), Int.emod_lt_of_pos _ (h s List.mem_cons_self)⟩, digB_in _ _ ss fun z hz => h z (List.mem_cons_of_mem _ hz)⟩
theorem digits_in (c : Int) (ss : List Int) (h : ∀ s ∈ ss, 0 < s) : Within (digitsF c ss) ss := by
  unfold digitsF; split
  · exact digA_in _ _ h
  · exact digB_in _ _ _ h
theorem et_yes {σ : L2.St} {H : Hp} : EvT tYes σ H true := fun H1 _ Q q => q H1 (Ex.refl H1)
theorem Within.get : ∀ {ds ss : List Int}, Within ds ss → ∀ i, i < ss.length → 0 ≤ ds.getD i 0 ∧ ds.getD i 0 < ss.getD i 0
  | [], [], _, i, h => absurd h (Nat.not_lt_zero i)
  | d :: ds, s :: ss, h, 0, _ => h.1
  | d :: ds, s :: ss, h, i + 1, hi => h.2.get i (by simpa using hi)
  | [], _ :: _, h, _, _ => h.elim
  | _ :: _, [], h, _, _ => h.elim
theorem Within.len : ∀ {ds ss : List Int}, Within ds ss → ds.length = ss.length
  | [], [], _ => rfl
  | _ :: _, _ :: _, h => congrArg Nat.succ h.2.len
  | [], _ :: _, h => h.elim
  | _ :: _, [], h => h.elim
theorem at_d {rs : List Int} {i : Nat} (h : i < rs.length) : atI (rs.map V.int) (i : Int) = some (.int (rs.getD i 0)) := at_map (by omega) (by
  rw [Int.toNat_natCast, List.getD_eq_getElem?_getD, List.getElem?_eq_getElem h]; rfl)
theorem pow_mono (b : Nat) (hb : 1 ≤ b) {i j : Nat} (h : i ≤ j) : ((b : Int)) ^ i ≤ (b : Int) ^ j := by
  have := Nat.pow_le_pow_right hb h
  have h2 : ((b ^ i : Nat) : Int) ≤ ((b ^ j : Nat) : Int) := Int.ofNat_le.mpr this
  rwa [Int.natCast_pow, Int.natCast_pow] at h2
theorem flat_ints (ns : List Int) : (ns.map V.int).all flatV = true := by
  rw [List.all_eq_true]
  intro x hx
  obtain ⟨z, _, rfl⟩ := List.mem_map.mp hx
  rfl
theorem in_ints (z : Int) (ns : List Int) : inV (.int z) (ns.map V.int) = decide (z ∈ ns) := by
  unfold inV
  induction ns with
  | nil => simp
  | cons a ns ih =>
    rw [List.map_cons, List.any_cons, ih]
    have : eqV (.int a) (.int z) = (a == z) := rfl
    rw [this]
    by_cases h : a = z
    · subst h; simp
    · have h2 : ¬ z = a := fun e => h e.symm
      simp [h, h2]
theorem given_map {α : Type} (xs : List α) (d : α) (g : α → V) (v : Nat → V) (h : ∀ i, i < xs.length → v i = g (xs.getD i d)) : given xs.length (fun _ => true) v = xs.map g := by
  unfold given
  rw [List.filter_eq_self.mpr (fun _ _ => rfl)]
  refine List.ext_getElem (by simp) fun i h1 h2 => ?_
  rw [List.getElem_map, List.getElem_map, List.getElem_range]
  rw [List.length_map] at h2
  rw [h i h2, List.getD_eq_getElem?_getD, List.getElem?_eq_getElem h2]
  rfl
/-- a call whose answer is one of several -/
theorem q_call {σ : L2.St} {H : Hp} {i : Nat} {sp : Sp} {dvs vs : List V} {E : XK} {ta : TA} {D : Ends} {tz : TS} (h : EvA ta σ H vs) (hs : ∀ H1, Ex H H1 → sp (vs ++ dvs) H1 (fun x H2 => tz D (σ.set i (some x)) H2) E) : tSeq (tAsg (tCall sp dvs E ta) (gName i)) tz D σ H :=
  h H (Ex.refl H) _ fun H1 e1 => hs H1 e1
/-- [x] * n -/
theorem el_rep {σ : L2.St} {H : Hp} {ta tb : TE} {xs : List V} {k : Int} (ha : EvL ta σ H xs) (hb : ∀ H1, Ex H H1 → Ev tb σ H1 (.int k)) (h0 : 0 ≤ k) (h1 : xs.length * k.toNat ≤ 100000) (h2 : k < 2 ^ 63) : EvL (tOp rRep ta tb) σ H (List.replicate k.toNat xs).flatten := fun H1 e Q q =>
  ha H1 e _ fun p H2 hp e2 h2' => hb H2 (e.trans e2) H2 (Ex.refl H2) _ fun H3 e3 => ⟨p, k, xs, rfl, rfl, e3 p _ h2', by omega, h2, sz_of h1, fun l hl => q l _ (fresh_back (e2.trans e3) hl) ((e2.trans e3).trans (Ex.new hl)) upd_same⟩
/-- a call with a new list as its second argument, its answer a new list -/
theorem q_call2L {σ : L2.St} {H : Hp} {i : Nat} {x : V} {xs ys : List V} {sp : Sp} {E : XK} {ta tb : TE} {D : Ends} {tz : TS} (ha : Ev ta σ H x) (hb : EvL tb σ H xs) (hs : ∀ p H1, H1 p = some (.lst xs) → Ex H H1 → SpL sp [x, .ref p] H1 ys)
    (k : ∀ p H1, H p = none → Ex H H1 → H1 p = some (.lst ys) → tz D (σ.set i (some (.ref p))) H1) : tSeq (tAsg (tCall sp [] E (tCons ta (tCons tb tNil))) (gName i)) tz D σ H :=
  ha H (Ex.refl H) _ fun H1 e1 => hb H1 e1 _ fun p H2 hp e2 h2 => hs p H2 h2 (e1.trans e2) H2 (Ex.refl H2) _ (fun r H3 hr e3 h3 => k r H3 (fresh_back (e1.trans e2) hr) ((e1.trans e2).trans e3) h3) E
theorem ev_callL2 {σ : L2.St} {H : Hp} {x z : V} {xs : List V} {sp : Sp} {E : XK} {ta tb : TE} (ha : Ev ta σ H x) (hb : EvL tb σ H xs) (hs : ∀ p H1, H1 p = some (.lst xs) → Ex H H1 → SpV sp [x, .ref p] H1 z) : Ev (tCall sp [] E (tCons ta (tCons tb tNil))) σ H z := fun H0 e0 Q q =>
  ha H0 e0 _ fun H1 e1 => hb H1 (e0.trans e1) _ fun p H2 hp e2 h2 => hs p H2 h2 ((e0.trans e1).trans e2) H2 (Ex.refl H2) Q (fun H3 e3 => q H3 ((e1.trans e2).trans e3)) E
theorem ev_callL1 {σ : L2.St} {H : Hp} {y z : V} {xs : List V} {sp : Sp} {E : XK} {ta tb : TE} (ha : EvL ta σ H xs) (hb : ∀ H1, Ex H H1 → Ev tb σ H1 y) (hs : ∀ p H1, H1 p = some (.lst xs) → Ex H H1 → SpV sp [.ref p, y] H1 z) : Ev (tCall sp [] E (tCons ta (tCons tb tNil))) σ H z := fun H0 e0 Q q =>
  ha H0 e0 _ fun p H1 hp e1 h1 => hb H1 (e0.trans e1) H1 (Ex.refl H1) _ fun H2 e2 => hs p H2 (e2 p _ h1) ((e0.trans e1).trans e2) H2 (Ex.refl H2) Q (fun H3 e3 => q H3 ((e1.trans e2).trans e3)) E
theorem ea_consNL {σ : L2.St} {H : Hp} {te : TE} {xs : List V} (h : EvL te σ H xs) (Q : List V → Hp → Prop) (q : ∀ p H2, H p = none → Ex H H2 → H2 p = some (.lst xs) → Q [.ref p] H2) : tCons te tNil σ H Q := h H (Ex.refl H) _ fun p H2 hp e h2 => q p H2 hp e h2
theorem kit_int_int {K : PySem.W.Frag} : PySem.W.kitOne K (.type "int") (.type "int") = some true := by rfl
theorem kit_int_bool {K : PySem.W.Frag} : PySem.W.kitOne K (.type "int") (.type "bool") = some false := by rfl
theorem kit_str_str {K : PySem.W.Frag} : PySem.W.kitOne K (.type "str") (.type "str") = some true := by rfl
def OkSizes (ss : List Int) : Prop := ss.length ≤ 10000 ∧ ∀ s ∈ ss, 0 < s ∧ s < 2 ^ 64
theorem divw {i j : Int} (h0 : 0 < j) (h : j < 2 ^ 64) : CDivW i j := wide_div (b := 64) h0 (by omega) (by decide) (by decide)
def spWhole : Sp := fun vs H Q _ => ∃ m : Int, vs = [.int m] ∧ RetV (.bl true) H Q
theorem sv_whole {m : Int} {H : Hp} : SpV spWhole [.int m] H (.bl true) := fun H1 _ Q q _ => ⟨m, rfl, q⟩
section
variable {K : PySem.W.Frag}
def spCellF (K : PySem.W.Frag) : Sp := fun vs H Q _ => ∃ (a : Addr) (ns : List Int) (k : Int), vs = [.ref a, .int k] ∧ SqL K H a (ns.map V.int) ∧ 0 ≤ k ∧ k ≤ 1000000 ∧ RetV (.int (cellF ns k)) H Q
theorem sv_cell {a : Addr} {ns : List Int} {k : Int} {H : Hp} (hS : SqL K H a (ns.map V.int)) (h0 : 0 ≤ k) (h1 : k ≤ 1000000) : SpV (spCellF K) [.ref a, .int k] H (.int (cellF ns k)) := fun H1 e Q q _ => ⟨a, ns, k, rfl, ex_l e hS, h0, h1, q⟩
def spDigits (K : PySem.W.Frag) : Sp := fun vs H Q _ => ∃ (c : Int) (b : Addr) (ss : List Int), vs = [.int c, .ref b] ∧ SqL K H b (ss.map V.int) ∧ OkSizes ss ∧ RetL ((digitsF c ss).map V.int) H Q
theorem sl_digits {c : Int} {b : Addr} {ss : List Int} {H : Hp} (hS : SqL K H b (ss.map V.int)) (ok : OkSizes ss) : SpL (spDigits K) [.int c, .ref b] H ((digitsF c ss).map V.int) := fun H1 e Q q _ => ⟨c, b, ss, rfl, ex_l e hS, ok, fun p H2 hp e2 h2 => q p H2 hp e2 h2⟩
theorem pos_of {ss : List Int} (h : OkSizes ss) : ∀ s ∈ ss, 0 < s := fun s hs => (h.2 s hs).1
end
end My

set_option Elab.async false
set_option linter.all false
set_option maxRecDepth 100000
set_option maxHeartbeats 4000000
namespace My
open PySem PySem.Spec PyProof.Rows L2 Evl
open SX (S S_len S_cat S_beq S_beq_eq S_inj S_tl)
/-! ### texts as lists of code points -/
def cutL {α : Type} (l : List α) (lo hi : Option Int) : List α := (l.drop (HT.sIx l.length 0 lo)).take (HT.sIx l.length l.length hi - HT.sIx l.length 0 lo)
theorem cutV_L (xs : List V) (lo hi : Option Int) : cutV xs lo hi = cutL xs lo hi := rfl
theorem cutS_S (l : List Nat) (lo hi : Option Int) : cutS (S l) lo hi = S (cutL l lo hi) := by
  unfold cutS cutL
  rw [S_len]
theorem sIx_pos {n d : Nat} {i : Int} (h : 0 ≤ i) : HT.sIx n d (some i) = min i.toNat n := by
  show (if i < 0 then _ else min i.toNat n) = _
  rw [if_neg (by omega)]
theorem cutL_to {α : Type} {l : List α} {i : Int} (h : 0 ≤ i) : cutL l none (some i) = l.take i.toNat := by
  unfold cutL
  rw [sIx_pos h, HT.sIx_none, List.drop_zero, Nat.sub_zero]
  rw [List.take_eq_take_iff]
  omega
theorem cutL_from {α : Type} {l : List α} {i : Int} (h : 0 ≤ i) : cutL l (some i) none = l.drop i.toNat := by
  unfold cutL
  rw [sIx_pos h, HT.sIx_none]
  by_cases c : i.toNat ≤ l.length
  · rw [Nat.min_eq_left c]
    apply List.take_of_length_le
    rw [List.length_drop]
    omega
  · rw [Nat.min_eq_right (by omega), List.drop_length, List.drop_eq_nil_of_le (by omega)]
    simp
theorem cutL_mid {α : Type} {l : List α} {i j : Int} (h : 0 ≤ i) (hj : 0 ≤ j) : cutL l (some i) (some j) = (l.drop i.toNat).take (j.toNat - i.toNat) := by
  unfold cutL
  rw [sIx_pos h, sIx_pos hj]
  by_cases c : i.toNat ≤ l.length
  · rw [Nat.min_eq_left c, List.take_eq_take_iff, List.length_drop]
    omega
  · have e : min i.toNat l.length = l.length := Nat.min_eq_right (by omega)
    rw [e, List.drop_length, List.drop_eq_nil_of_le (show l.length ≤ i.toNat by omega)]
    simp
theorem cutL_map {α β : Type} (f : α → β) (l : List α) (lo hi : Option Int) : cutL (l.map f) lo hi = (cutL l lo hi).map f := by
  unfold cutL
  rw [List.length_map, List.map_take, List.map_drop]
theorem cutL_len {α : Type} (l : List α) (lo hi : Option Int) : (cutL l lo hi).length ≤ l.length := by
  unfold cutL
  rw [List.length_take, List.length_drop]
  omega
section
variable {X : Cx}
/-- a text times an int -/
def rRepS : R2 := fun x y H Q => ∃ (l : List Nat) (k : Int), x = .str (S l) ∧ y = .int k ∧ 0 ≤ k ∧ k ≤ 1000000 ∧ l.length * k.toNat ≤ 1000000 ∧ Q (.str (S (List.replicate k.toNat l).flatten)) H
theorem fold_app (l : List Nat) : ∀ (n : Nat) (acc : Array Nat), List.foldl (· ++ ·) acc (List.replicate n l.toArray) = acc ++ (List.replicate n l).flatten.toArray
  | 0, acc => by simp
  | n + 1, acc => by
    rw [List.replicate_succ, List.foldl_cons, fold_app l n, List.replicate_succ, List.flatten_cons]
    simp
theorem op_repS : OpR X (binaryOp .Mult) rRepS := by
  intro pins s σ H x y v u Q I rx ry h
  obtain ⟨l, k, rfl, rfl, h0, h1, hz, q⟩ := h
  obtain ⟨t, rfl⟩ := rx
  obtain ⟨t2, rfl⟩ := ry
  have hl : (S l).length = l.length := S_len l
  have hr : (decide (k < -(2 ^ 63 : Int)) || decide (k ≥ 2 ^ 63)) = false := by
    rw [decide_eq_false (by omega), decide_eq_false (by omega)]; rfl
  refine PySem.P.mul_str hr (fun n1 n2 => ?_) (fun n1 n2 => ?_) ?_
  · rw [hl]
    have a : (l.length : Int) ≤ 1000000 := by
      have : l.length * 1 ≤ l.length * k.toNat := Nat.mul_le_mul_left _ (by omega)
      omega
    have b : (1000000 : Int) ≤ (2 ^ 63 - 1) / k := (Int.le_ediv_iff_mul_le (by omega)).mpr (by omega)
    omega
  · rw [hl]
    show decide (l.length * k.toNat > sizeLine) = false
    have : sizeLine = 16777216 := rfl
    exact decide_eq_false (by omega)
  · by_cases c : k < 1
    · rw [if_pos c]
      have k0 : k.toNat = 0 := by omega
      rw [k0] at q
      exact ⟨by decide, ⟨.str (S []), H, I.tok _, ⟨_, rfl⟩, q⟩⟩
    · rw [if_neg c]
      by_cases d : (k == 1 || (S l).length == 0) = true
      · rw [if_pos d]
        have e : (List.replicate k.toNat l).flatten = l := by
          rw [Bool.or_eq_true] at d
          rcases d with d | d
          · have : k = 1 := by simpa using d
            subst this
            simp
          · have : l = [] := by
              rw [hl] at d
              exact List.length_eq_zero_iff.mp (by simpa using d)
            subst this
            simp
        rw [e] at q
        exact ⟨.str (S l), H, I, ⟨_, rfl⟩, q⟩
      · rw [if_neg d]
        have e : (⟨(List.replicate k.toNat (S l).cps).foldl (· ++ ·) #[]⟩ : PySem.Str) = S (List.replicate k.toNat l).flatten := by
          show PySem.Str.mk _ = PySem.Str.mk _
          rw [fold_app l]
          simp
        rw [e]
        refine ⟨?_, ⟨.str _, H, I.tok _, ⟨_, rfl⟩, q⟩⟩
        rw [S_len, List.length_flatten]
        have : sizeLine = 16777216 := rfl
        have e2 : (List.map List.length (List.replicate k.toNat l)).sum = k.toNat * l.length := by simp
        rw [e2, Nat.mul_comm]
        omega
end
/-! ### readings -/
abbrev rAddS : R2 := fun x y H Q => ∃ i j, x = .str i ∧ y = .str j ∧ i.length + j.length ≤ sizeLine ∧ Q (.str (i ++ j)) H
abbrev rJoin (K : PySem.W.Frag) : V → List V → Hp → VK → Prop := fun x xs H Q => ∃ a p, ∃ ys : List Str, x = .str a ∧ xs = [.ref p] ∧ (SqL K H p (ys.map V.str) ∨ SqT K H p (ys.map V.str)) ∧
    (ys.map (·.length)).sum + ys.length * a.length ≤ 16777216 ∧ Q (.str (Txt.join a ys)) H
abbrev sV (ls : List (List Nat)) : List V := ls.map fun l => V.str (S l)
section
variable {K : PySem.W.Frag} {σ : L2.St} {H : Hp} {ta tb te : TE} {x y z v : V} {D : Ends} {tu tz : TS} {tl th : TO}
theorem rv_addS {a b : List Nat} (h : a.length + b.length ≤ 1000000) : RV rAddS (.str (S a)) (.str (S b)) H (.str (S (a ++ b))) := fun H1 _ Q q =>
  ⟨S a, S b, rfl, rfl, by rw [S_len, S_len]; have : sizeLine = 16777216 := rfl; omega, by rw [S_cat]; exact q H1 (Ex.refl H1)⟩
theorem rv_repS {l : List Nat} {k : Int} (h0 : 0 ≤ k) (h1 : k ≤ 1000000) (hz : l.length * k.toNat ≤ 1000000) : RV rRepS (.str (S l)) (.int k) H (.str (S (List.replicate k.toNat l).flatten)) := fun H1 _ Q q => ⟨l, k, rfl, rfl, h0, h1, hz, q H1 (Ex.refl H1)⟩
theorem rv_ixSS {l : List Nat} {i : Int} {c : Nat} (h : l.length ≤ 100000) (ha : atI l i = some c) : RV rIxS (.str (S l)) (.int i) H (.str (S [c])) := rv_ixS (by rw [S_len]; exact h) (by simpa using ha)
theorem ev_slS {l : List Nat} {lo hi : Option Int} (h : Ev te σ H (.str (S l))) (h1 : EvO tl σ H lo) (h2 : EvO th σ H hi) (hz : l.length ≤ 1000000) : Ev (tSl rSlS te tl th) σ H (.str (S (cutL l lo hi))) := fun H1 e Q q =>
  h H1 e _ fun H2 e2 => h1 H2 (e.trans e2) _ fun H3 e3 => h2 H3 ((e.trans e2).trans e3) _ fun H4 e4 => ⟨S l, rfl, by rw [S_len]; have : sizeLine = 16777216 := rfl; omega, by
    rw [cutS_S]
    exact q H4 ((e2.trans e3).trans e4)⟩
theorem ev_lenSS {l : List Nat} (ha : Ev ta σ H (.str (S l))) (hs : l.length ≤ 1000000) : Ev (tCB (fun xs H Q => ∃ z : Str, xs = [.str z] ∧ z.length ≤ sizeLine ∧ Q (.int z.length) H) (tCons ta tNil)) σ H (.int (l.length : Int)) := by
  have h := ev_lenStr (s := S l) ha (by rw [S_len]; have : sizeLine = 16777216 := rfl; omega)
  rw [S_len] at h
  exact h
theorem joinL_nil : ∀ ls : List (List Nat), TL.joinL [] ls = ls.flatten
  | [] => rfl
  | [p] => by simp [TL.joinL]
  | p :: q :: r => by
    rw [TL.joinL, joinL_nil (q :: r)]
    simp
theorem sum_le {ls : List (List Nat)} {n : Nat} (h : ∀ l ∈ ls, l.length ≤ n) : (ls.map List.length).sum ≤ ls.length * n := by
  induction ls with
  | nil => simp
  | cons l ls ih =>
    have a := ih fun m hm => h m (List.mem_cons_of_mem _ hm)
    have b := h l List.mem_cons_self
    rw [List.map_cons, List.sum_cons, List.length_cons, Nat.succ_mul]
    omega
/-- ''.join(xs), xs a new list -/
theorem ev_joinL {ls : List (List Nat)} (ho : Ev ta σ H (.str (S []))) (hb : EvL tb σ H (sV ls)) (hz : (ls.map List.length).sum ≤ 1000000) : Ev (tM1 (rJoin K) ta tb) σ H (.str (S ls.flatten)) := fun H1 e Q q =>
  ho H1 e _ fun H2 e2 => ⟨⟨_, rfl⟩, hb H2 (e.trans e2) _ fun p H3 hp e3 h3 => ⟨S [], p, ls.map S, rfl, rfl, Or.inl (by rw [List.map_map]; exact sq_of h3), by
    rw [SX.lens, List.length_map]
    have : (S ([] : List Nat)).length = 0 := rfl
    rw [this, Nat.mul_zero]
    exact Nat.le_trans hz (by decide), by
    rw [SX.join_S, joinL_nil]
    exact q H3 (e2.trans e3)⟩⟩
end
/-! ### a dict whose keys are texts that were met -/
def DW (H : Hp) (d : Addr) (ws : List (List Nat)) : Prop := ∃ kvs, H d = some (.dK kvs) ∧ kvs.length ≤ ws.length ∧ ∀ w, (valV kvs (Sum.inr (S w))).isSome = decide (w ∈ ws)
theorem DW.ex {H H' : Hp} {d : Addr} {ws : List (List Nat)} (h : DW H d ws) (e : Ex H H') : DW H' d ws := by
  obtain ⟨kvs, a, b, c⟩ := h
  exact ⟨kvs, e _ _ a, b, c⟩
theorem DW.upd {H : Hp} {d p : Addr} {o : HO} {ws : List (List Nat)} (h : DW H d ws) (hp : d ≠ p) : DW (upd H p o) d ws := by
  obtain ⟨kvs, a, b, c⟩ := h
  exact ⟨kvs, by rw [upd_ne hp]; exact a, b, c⟩
theorem kV_str (w : List Nat) : (kV (Sum.inr (S w)) : V) = .str (S w) := rfl
section
variable {K : PySem.W.Frag} {σ : L2.St} {H : Hp} {ta tb te : TE} {D : Ends} {tz : TS}
theorem q_dnew {i : Nat} (k : ∀ p H1, H p = none → DW H1 p [] → Ex H H1 → tz D (σ.set i (some (.ref p))) H1) : tSeq (tAsg tDNewK (gName i)) tz D σ H := fun p hp =>
  k p _ hp ⟨[], upd_same, Nat.le_refl _, fun w => by simp [valV_nil]⟩ (Ex.new hp)
theorem ev_din {d : Addr} {w : List Nat} {ws : List (List Nat)} (ha : Ev ta σ H (.str (S w))) (hb : Ev tb σ H (.ref d)) (h : DW H d ws) : Ev (tDIn ta tb) σ H (.bl (decide (w ∈ ws))) := fun H1 e Q q =>
  ha H1 e _ fun H2 e2 => hb H2 (e.trans e2) _ fun H3 e3 => by
    obtain ⟨kvs, h1, h2, h3⟩ := h.ex ((e.trans e2).trans e3)
    exact ⟨d, _, rfl, DGet.k (k := Sum.inr (S w)) h1, by rw [h3]; exact q H3 (e2.trans e3)⟩
theorem ev_dni {d : Addr} {w : List Nat} {ws : List (List Nat)} (ha : Ev ta σ H (.str (S w))) (hb : Ev tb σ H (.ref d)) (h : DW H d ws) : Ev (tDNotIn ta tb) σ H (.bl (!decide (w ∈ ws))) := fun H1 e Q q =>
  ha H1 e _ fun H2 e2 => hb H2 (e.trans e2) _ fun H3 e3 => by
    obtain ⟨kvs, h1, h2, h3⟩ := h.ex ((e.trans e2).trans e3)
    exact ⟨d, _, rfl, DGet.k (k := Sum.inr (S w)) h1, by rw [h3]; exact q H3 (e2.trans e3)⟩
theorem dw_put {d : Addr} {w : List Nat} {ws : List (List Nat)} {v : V} {H : Hp} {kvs : List (Key × V)} (h2 : kvs.length ≤ ws.length) (h3 : ∀ w, (valV kvs (Sum.inr (S w))).isSome = decide (w ∈ ws)) : DW (upd H d (.dK (putK kvs (Sum.inr (S w)) v))) d (w :: ws) := by
  refine ⟨_, upd_same, ?_, fun u => ?_⟩
  · have : (putK kvs (Sum.inr (S w)) v).length ≤ kvs.length + 1 := by
      unfold putK
      split
      · rw [List.length_map]; omega
      · rw [List.length_append]; simp
    rw [List.length_cons]
    omega
  · rw [valV_put]
    by_cases e : u = w
    · subst e; simp
    · have e2 : ¬ (Sum.inr (S u) : Key) = Sum.inr (S w) := fun c => e (S_inj (Sum.inr.inj c))
      rw [if_neg e2, h3]
      simp [e]
/-- d[w] = True; d is not of the first heap -/
theorem s_dput {d : Addr} {w : List Nat} {ws : List (List Nat)} {v : V} (hv : Ev te σ H v) (ho : Ev tb σ H (.ref d)) (hi : Ev ta σ H (.str (S w))) (h : DW H d ws) (hl : ws.length < 100000)
    (k : ∀ H1, Ex H H1 → ∀ kvs, DW (upd H1 d (.dK kvs)) d (w :: ws) → D.nx σ (upd H1 d (.dK kvs))) : sDPut tb ta te D σ H :=
  hv H (Ex.refl H) _ fun H1 e1 => ho H1 e1 _ fun H2 e2 => hi H2 (e1.trans e2) _ fun H3 e3 => by
    obtain ⟨kvs, h1, h2, h3⟩ := h.ex ((e1.trans e2).trans e3)
    exact ⟨d, _, rfl, DPut.k (k := Sum.inr (S w)) h1 (sz_lt (by omega)), k H3 ((e1.trans e2).trans e3) _ (dw_put h2 h3)⟩
theorem q_dput {d : Addr} {w : List Nat} {ws : List (List Nat)} {v : V} (hv : Ev te σ H v) (ho : Ev tb σ H (.ref d)) (hi : Ev ta σ H (.str (S w))) (h : DW H d ws) (hl : ws.length < 100000)
    (k : ∀ H1, Ex H H1 → ∀ kvs, DW (upd H1 d (.dK kvs)) d (w :: ws) → tz D σ (upd H1 d (.dK kvs))) : tSeq (sDPut tb ta te) tz D σ H := s_dput (D := { D with nx := tz D }) hv ho hi h hl k
end
end My

set_option Elab.async false
set_option linter.all false
set_option maxRecDepth 100000
set_option maxHeartbeats 4000000
namespace My
open PySem PySem.Spec PyProof.Rows L2 Evl
open SX (S S_len S_cat S_beq S_beq_eq S_inj S_tl)
/-! ### a <= b < c <= d -/
def tChain3 (r r' r'' : R2) (ta tb tc td : TE) : L2.TT := fun σ H Q => ta σ H fun x H1 => tb σ H1 fun y H2 => r x y H2 fun z H3 => ∃ k, z = .bl k ∧
  (if k = true then tc σ H3 fun w H4 => r' y w H4 fun z2 H5 => ∃ k2, z2 = .bl k2 ∧ (if k2 = true then td σ H5 fun u H6 => r'' w u H6 fun z3 H7 => ∃ k3, z3 = .bl k3 ∧ Q k3 H7 else Q false H5) else Q false H3)
section
variable {X : Cx} {a b c d : Expr} {ta tb tc td : TE} {pos : Pos}
theorem pt_chain3 {op op' op'' : CmpOp} {r r' r'' : R2} (ho : OpR X (compareOp op) r) (ho' : OpR X (compareOp op') r') (ho'' : OpR X (compareOp op'') r'') (ha : PE X a ta) (hb : PE X b tb) (hc : PE X c tc) (hd : PE X d td)
    (hm : lastMarks [op, op', op''] [b, c, d] = false := by with_unfolding_all rfl) : PT X (.Compare a [op, op', op''] [b, c, d] pos) (tChain3 r r' r'' ta tb tc td) := by
  refine ⟨fun pins s σ H Q I h => ?_⟩
  refine isTrue_chain (thn (ha.run pins s σ H _ I h) fun v s1 ⟨x, H1, I1, r1, q1⟩ => test_link (thn (hb.run pins s1 σ H1 _ I1 q1) fun u s2 ⟨y, H2, I2, r2, q2⟩ =>
    thn (ho pins s2 σ H2 x y v u _ I2 r1 r2 q2) fun e s3 ⟨z, H3, I3, r3, k, e0, q3⟩ => ?_)) hm
  subst e0
  cases r3
  refine wpAny_truthy_bool ?_
  cases k with
  | false => exact ite_ff ⟨H3, I3, q3⟩
  | true =>
    refine ite_tt (test_link (thn (hc.run pins s3 σ H3 _ I3 q3) fun w' s4 ⟨w, H4, I4, r4, q4⟩ => thn (ho' pins s4 σ H4 y w u w' _ I4 r2 r4 q4) fun d' s5 ⟨z2, H5, I5, r5, k2, e2, q5⟩ => ?_))
    subst e2
    cases r5
    refine wpAny_truthy_bool ?_
    cases k2 with
    | false => exact ite_ff ⟨H5, I5, q5⟩
    | true =>
      refine ite_tt (test_last (thn (hd.run pins s5 σ H5 _ I5 q5) fun u' s6 ⟨u2, H6, I6, r6, q6⟩ => thn (ho'' pins s6 σ H6 w u2 w' u' _ I6 r4 r6 q6) fun d2 s7 ⟨z3, H7, I7, r7, k3, e3, q7⟩ => ?_))
      subst e3
      cases r7
      exact wpAny_truthy_bool ⟨H7, I7, q7⟩
end
section
variable {K : PySem.W.Frag} {σ : L2.St} {H : Hp} {ta tb tc td te : TE} {x y w u z v : V} {D : Ends} {tu tz : TS}
theorem et_chain3 {r r' r'' : R2} {k1 k2 k3 : Bool} (ha : Ev ta σ H x) (hb : Ev tb σ H y) (hc : Ev tc σ H w) (hd : Ev td σ H u) (h1 : RV r x y H (.bl k1)) (h2 : RV r' y w H (.bl k2)) (h3 : RV r'' w u H (.bl k3)) :
    EvT (tChain3 r r' r'' ta tb tc td) σ H (k1 && (k2 && k3)) := fun H0 e0 Q q => ha H0 e0 _ fun H1 e1 => hb H1 (e0.trans e1) _ fun H2 e2 => h1 H2 ((e0.trans e1).trans e2) _ fun H3 e3 => ⟨k1, rfl, by
    cases k1 with
    | false => exact ite_ff (q H3 ((e1.trans e2).trans e3))
    | true =>
      refine ite_tt (hc H3 (((e0.trans e1).trans e2).trans e3) _ fun H4 e4 => h2 H4 ((((e0.trans e1).trans e2).trans e3).trans e4) _ fun H5 e5 => ⟨k2, rfl, ?_⟩)
      cases k2 with
      | false => exact ite_ff (q H5 ((((e1.trans e2).trans e3).trans e4).trans e5))
      | true => exact ite_tt (hd H5 (((((e0.trans e1).trans e2).trans e3).trans e4).trans e5) _ fun H6 e6 => h3 H6 ((((((e0.trans e1).trans e2).trans e3).trans e4).trans e5).trans e6) _ fun H7 e7 => ⟨k3, rfl, q H7 ((((((e1.trans e2).trans e3).trans e4).trans e5).trans e6).trans e7)⟩)⟩
/-! ### items -/
theorem at_get {α : Type} {l : List α} {i : Int} (h0 : 0 ≤ i) (h1 : i < (l.length : Int)) : ∃ c, atI l i = some c ∧ c ∈ l := by
  obtain ⟨j, rfl⟩ : ∃ j : Nat, i = (j : Int) := ⟨i.toNat, by omega⟩
  have hj : j < l.length := by omega
  exact ⟨l[j], atI_nat (List.getElem?_eq_getElem hj), List.getElem_mem hj⟩
theorem at_str {l : Str} {i : Int} {n : Nat} (hn : l.length = n) (hz : n ≤ 100000) (h0 : 0 ≤ i) (h1 : i < (n : Int)) : ∃ c, RV rIxS (.str l) (.int i) H (.str (S [c])) := by
  obtain ⟨c, hc, _⟩ := at_get (l := l.cps.toList) h0 (by
    have : l.cps.toList.length = l.length := by simp [Str.length]
    omega)
  exact ⟨c, rv_ixS (by omega) hc⟩
theorem at_S {l : List Nat} {i : Int} (hz : l.length ≤ 100000) (h0 : 0 ≤ i) (h1 : i < (l.length : Int)) : ∃ c, c ∈ l ∧ RV rIxS (.str (S l)) (.int i) H (.str (S [c])) := by
  obtain ⟨c, hc, hm⟩ := at_get (l := l) h0 h1
  exact ⟨c, hm, rv_ixSS hz hc⟩
/-- an item of a written list of numbers -/
theorem at_ints {ns : List Int} {i : Int} (P : Int → Prop) (hP : ∀ n ∈ ns, P n) (h0 : 0 ≤ i) (h1 : i < (ns.length : Int)) : ∃ z, atI (ns.map V.int) i = some (.int z) ∧ P z := by
  obtain ⟨c, hc, hm⟩ := at_get (l := ns.map V.int) h0 (by rw [List.length_map]; exact h1)
  obtain ⟨z, hz, rfl⟩ := List.mem_map.mp hm
  exact ⟨z, hc, hP z hz⟩
theorem flat_strs (ls : List (List Nat)) : (sV ls).all flatV = true := by
  rw [List.all_eq_true]
  intro v hv
  obtain ⟨l, _, rfl⟩ := List.mem_map.mp hv
  rfl
theorem el_call2 {xs ys : List V} {sp : Sp} {E : XK} (ha : Ev ta σ H x) (hb : EvL tb σ H xs) (hs : ∀ p H1, H1 p = some (.lst xs) → Ex H H1 → SpL sp [x, .ref p] H1 ys) : EvL (tCall sp [] E (tCons ta (tCons tb tNil))) σ H ys := fun H0 e0 Q q =>
  ha H0 e0 _ fun H1 e1 => hb H1 (e0.trans e1) _ fun p H2 hp e2 h2 => hs p H2 h2 ((e0.trans e1).trans e2) H2 (Ex.refl H2) Q (fun r H3 hr e3 h3 => q r H3 (fresh_back (e1.trans e2) hr) ((e1.trans e2).trans e3) h3) E
theorem ev_ixNew {xs : List V} {i : Int} (ha : EvL ta σ H xs) (hb : ∀ H1, Ex H H1 → Ev tb σ H1 (.int i)) (h : atI xs i = some v) : Ev (tOp (rIxL K) ta tb) σ H v := fun H1 e Q q =>
  ha H1 e _ fun p H2 hp e2 h2 => hb H2 (e.trans e2) H2 (Ex.refl H2) _ fun H3 e3 => ⟨p, xs, i, v, rfl, rfl, sq_of (e3 _ _ h2), h, q H3 (e2.trans e3)⟩
/-- ''.join(sorted(xs)), fewer than 64 -/
theorem ev_joinSorted {p : Addr} {ls : List (List Nat)} {Q : VK} (ho : Ev ta σ H (.str (S []))) (hb : Ev tb σ H (.ref p)) (h : SqL K H p (sV ls)) (h64 : ls.length < 64) (hz : (ls.map List.length).sum ≤ 1000000)
    (q : ∀ (l : List Nat) H2, l.length = (ls.map List.length).sum → Ex H H2 → Q (.str (S l)) H2) : (tM1 (rJoin K) ta (tCB (rSortedS K) (tCons tb tNil))) σ H Q :=
  ho H (Ex.refl H) _ fun H1 e1 => ⟨⟨_, rfl⟩, hb H1 e1 _ fun H2 e2 => ⟨p, ls.map S, rfl, by rw [List.map_map]; exact ex_l (e1.trans e2) h, by rw [List.length_map]; exact h64, fun ys d perm _ hd =>
    ⟨S [], d, ys, rfl, rfl, Or.inl (sq_of upd_same), by
      have e : (S ([] : List Nat)).length = 0 := rfl
      have s := (perm.map (·.length)).sum_nat
      rw [SX.lens] at s
      rw [e, Nat.mul_zero, s]
      exact Nat.le_trans hz (by decide), by
      have e3 : ys = (ys.map fun y => y.cps.toList).map S := by
        rw [List.map_map]
        exact (List.map_id ys).symm.trans (List.map_congr_left fun y _ => (S_tl y).symm)
      have s := (perm.map (·.length)).sum_nat
      rw [SX.lens] at s
      rw [e3] at s ⊢
      rw [SX.join_S, joinL_nil]
      refine q _ _ ?_ ((e1.trans e2).trans (Ex.new hd))
      rw [SX.lens] at s
      rw [List.length_flatten]
      exact s⟩⟩⟩
theorem s_forS {l : List Nat} {tl : TE} {g : TG} (h : Ev tl σ H (.str (S l))) (Pv : Nat → L2.St → Hp → Prop) (h0 : ∀ H1, Ex H H1 → Pv 0 σ H1)
    (hs : ∀ i c σ H, (S l).cps[i]? = some c → Pv i σ H → g (.str ⟨#[c]⟩) σ H fun σ2 H2 => tu { D with nx := Pv (i + 1), ct := Pv (i + 1), bk := D.nx } σ2 H2) (hd : ∀ σ H, Pv (S l).cps.size σ H → D.nx σ H) : tFor (iStr tl) g tu D σ H :=
  h H (Ex.refl H) _ fun H1 e => ⟨S l, rfl, for_str Pv (h0 H1 e) hs hd⟩
end
end My

set_option Elab.async false
set_option linter.all false
set_option maxRecDepth 100000
set_option maxHeartbeats 4000000
namespace My
open PySem PySem.Spec PyProof.Rows L2 Evl
open SX (S S_len S_cat S_beq S_beq_eq S_inj S_tl)
section
variable {K : PySem.W.Frag} {σ : L2.St} {H : Hp} {ta tb tc td te : TE} {x y w u z v : V} {D : Ends} {tu tz : TS} {t : L2.TT}
theorem el_lcR2 {ta : TA} {j : Nat} {vs : List Nat} {lo n : Int} (f : Nat → Bool) (v : Nat → V) (h : EvA ta σ H [.int lo, .int n]) (hn : -10000 ≤ lo ∧ lo ≤ 10000 ∧ n ≤ 10000 ∧ -10000 ≤ n) (hw : ∀ x, wipe ((wipe σ vs).set j (some x)) vs = wipe σ vs)
    (ht : ∀ (i : Nat) H1, Ex H H1 → i < (n - lo).toNat → EvT t ((wipe σ vs).set j (some (.int (lo + (i : Int))))) H1 (f i)) (he : ∀ (i : Nat) H1, Ex H H1 → i < (n - lo).toNat → f i = true → Ev te ((wipe σ vs).set j (some (.int (lo + (i : Int))))) H1 (v i)) :
    EvL (tLc (iRng2 ta) (gName j) t te vs) σ H (given (n - lo).toNat f v) := fun H0 e Q q => h H0 e _ fun H1 e1 => ⟨lo, n, rfl, ⟨by omega, by omega, by omega, by omega⟩, fun Dl hD =>
  lc_range (lo := lo) (n := (n - lo).toNat) (Cw H1 f v Dl) ⟨hD, Ex.new hD, upd_same⟩ (fun i H' hi p => ⟨hw _, cw_turn p (by omega) (ht i H1 (e.trans e1) hi) (fun hf => he i H1 (e.trans e1) hi hf)⟩) (fun H' p => q Dl H' (fresh_back e1 p.1) (e1.trans p.2.1) p.2.2)⟩
theorem lc_str {x : Str} {g : TG} {tt : L2.TT} {te : TE} {vs : List Nat} {σ : L2.St} {H1 : Hp} {D : Addr} {Qd : Hp → Prop} (Pv : Nat → Hp → Prop) (h0 : Pv 0 (upd H1 D (.lst [])))
    (hs : ∀ i c H, x.cps[i]? = some c → Pv i H → g (.str ⟨#[c]⟩) (wipe σ vs) H fun σ2 H2 => wipe σ2 vs = wipe σ vs ∧ tt σ2 H2 fun b H3 =>
      if b = true then te σ2 H3 fun y H4 => ∃ acc, H4 D = some (.lst acc) ∧ acc.length < sizeLine ∧ Pv (i + 1) (upd H4 D (.lst (acc ++ [y]))) else Pv (i + 1) H3) (hd : ∀ H, Pv x.cps.size H → Qd H) :
    ∃ W : Nat → Nat → Hp → Prop, (∃ m, W 0 m (upd H1 D (.lst []))) ∧ ∀ i m H, W i m H →
      ((Its x).stop i H ∧ Qd H) ∨ ((Its x).go i H ∧ ∃ Nx : Hp → Prop, (∀ H', Nx H' → ∃ m', m' < m ∧ W (i + 1) m' H') ∧ ∀ y H', (Its x).yld i H y H' → g y (wipe σ vs) H' fun σ2 H2 => wipe σ2 vs = wipe σ vs ∧ tt σ2 H2 fun b H3 =>
        if b = true then te σ2 H3 fun y H4 => ∃ acc, H4 D = some (.lst acc) ∧ acc.length < sizeLine ∧ Nx (upd H4 D (.lst (acc ++ [y]))) else Nx H3) := by
  refine ⟨fun i m H => m = x.cps.size - i ∧ i ≤ x.cps.size ∧ Pv i H, ⟨x.cps.size, by simp, Nat.zero_le _, h0⟩, ?_⟩
  rintro i m H ⟨rfl, hi, p⟩
  by_cases hlt : i < x.cps.size
  · refine .inr ⟨hlt, Pv (i + 1), fun H' p' => ⟨x.cps.size - (i + 1), by omega, rfl, hlt, p'⟩, fun y H' z => ?_⟩
    obtain ⟨e, c, hc, rfl⟩ := z
    subst e
    exact hs i c _ hc p
  · have e : i = x.cps.size := by omega
    subst e
    exact .inl ⟨Nat.le_refl _, hd H p⟩
theorem el_lcS {l : List Nat} {tl : TE} {j : Nat} {vs : List Nat} (f : Nat → Bool) (v : Nat → V) (h : Ev tl σ H (.str (S l))) (hz : l.length ≤ 40000) (hw : ∀ x, wipe ((wipe σ vs).set j (some x)) vs = wipe σ vs)
    (ht : ∀ (i c : Nat) H1, Ex H H1 → l[i]? = some c → EvT t ((wipe σ vs).set j (some (.str (S [c])))) H1 (f i)) (he : ∀ (i c : Nat) H1, Ex H H1 → l[i]? = some c → f i = true → Ev te ((wipe σ vs).set j (some (.str (S [c])))) H1 (v i)) :
    EvL (tLc (iStr tl) (gName j) t te vs) σ H (given l.length f v) := fun H0 e Q q => h H0 e _ fun H1 e1 => ⟨S l, rfl, fun Dl hD => by
  have hsz : (S l).cps.size = l.length := by simp
  refine lc_str (x := S l) (Cw H1 f v Dl) ⟨hD, Ex.new hD, upd_same⟩ (fun i c H' hi p => ?_) (fun H' p => ?_)
  · have hi2 : l[i]? = some c := by simpa using hi
    have := (List.getElem?_eq_some_iff.mp hi2).1
    exact ⟨hw _, cw_turn p (by omega) (ht i c H1 (e.trans e1) hi2) (fun hf => he i c H1 (e.trans e1) hi2 hf)⟩
  · rw [hsz] at p
    exact q Dl H' (fresh_back e1 p.1) (e1.trans p.2.1) p.2.2⟩
/-- the texts made, as a list -/
theorem given_S (g : Nat → List Nat) : ∀ n, given n (fun _ => true) (fun i => V.str (S (g i))) = sV ((List.range n).map g)
  | 0 => rfl
  | n + 1 => by
    rw [given_yes rfl, given_S g n, List.range_succ, List.map_append]
    show _ = List.map _ (List.map g (List.range n) ++ [g n])
    rw [List.map_append]
    rfl
theorem sum_range (g : Nat → List Nat) (b : Nat) (h : ∀ i, (g i).length ≤ b) (n : Nat) : (((List.range n).map g).map List.length).sum ≤ n * b := by
  have := sum_le (ls := (List.range n).map g) (n := b) fun l hl => by
    obtain ⟨i, _, rfl⟩ := List.mem_map.mp hl
    exact h i
  rw [List.length_map, List.length_range] at this
  exact this
theorem len_range (g : Nat → List Nat) (b : Nat) (h : ∀ i, (g i).length = b) : ∀ n, (((List.range n).map g).flatten).length = n * b
  | 0 => by simp
  | n + 1 => by
    rw [List.range_succ, List.map_append, List.flatten_append, List.length_append, len_range g b h n, Nat.succ_mul]
    simp [h]
theorem len_range_le (g : Nat → List Nat) (b : Nat) (h : ∀ i, (g i).length ≤ b) (n : Nat) : (((List.range n).map g).flatten).length ≤ n * b := by
  rw [List.length_flatten]
  exact sum_range g b h n
end
end My

set_option Elab.async false
set_option linter.all false
set_option maxRecDepth 100000
set_option maxHeartbeats 4000000
namespace My
open PySem PySem.Spec PyProof.Rows L2 Evl
/-! ### lists of natural numbers, min and max, repr of a number -/
abbrev nV (l : List Nat) : List V := l.map fun (n : Nat) => V.int (n : Int)
theorem at_nV {l : List Nat} {i : Nat} (h : i < l.length) : atI (nV l) (i : Int) = some (.int (l.getD i 0 : Nat)) := by
  have e : ixN (nV l).length (i : Int) = some i := by
    unfold ixN
    rw [List.length_map, if_pos (by omega), if_pos (by omega)]
    simp
  unfold atI
  rw [e]
  show (nV l)[i]? = _
  rw [List.getElem?_map, List.getElem?_eq_getElem h, List.getD_eq_getElem?_getD, List.getElem?_eq_getElem h]
  rfl
theorem nV_len (l : List Nat) : (nV l).length = l.length := List.length_map _
abbrev nI (l : List Nat) : List Int := l.map fun (n : Nat) => (n : Int)
theorem nV_nI (l : List Nat) : nV l = (nI l).map V.int := by rw [List.map_map]; rfl
theorem sum_nI (l : List Nat) : (nI l).sum = ((l.sum : Nat) : Int) := by
  induction l with
  | nil => rfl
  | cons a l ih =>
    show (a : Int) + (nI l).sum = _
    rw [List.sum_cons, ih, Int.natCast_add]
theorem nV_app (l : List Nat) (n : Nat) : nV l ++ [V.int (n : Int)] = nV (l ++ [n]) := by simp [nV]
theorem nV_set (l : List Nat) (i n : Nat) : (nV l).set i (V.int (n : Int)) = nV (l.set i n) := by simp [nV, List.map_set]
section
variable {K : PySem.W.Frag} {σ : L2.St} {H : Hp} {ta tb tc te : TE}
def mn3 (a b c : Int) : Int := if c < (if b < a then b else a) then c else (if b < a then b else a)
theorem num3 (a b c : Int) : nuMin3 (.int a) (.int b) (.int c) = some (.int (mn3 a b c)) := by
  have h : ∀ i j : Int, nuLt (.int i) (.int j) = some (decide (i < j)) := fun _ _ => rfl
  unfold nuMin3 nuMin2 mn3
  rw [h]
  by_cases h1 : b < a
  · simp only [h1, decide_true, Option.map_some, Option.bind_some, if_true, h]
    by_cases h2 : c < b <;> simp [h2]
  · simp only [h1, decide_false, Option.map_some, Option.bind_some, if_false, h]
    by_cases h2 : c < a <;> simp [h2, h]
theorem ev_min3 {a b c : Int} (ha : Ev ta σ H (.int a)) (hb : Ev tb σ H (.int b)) (hc : Ev tc σ H (.int c)) : Ev (tCB (rNuC3 nuMin3) (tCons ta (tCons tb (tCons tc tNil)))) σ H (.int (mn3 a b c)) := fun H1 e Q q =>
  ha H1 e _ fun H2 e2 => hb H2 (e.trans e2) _ fun H3 e3 => hc H3 ((e.trans e2).trans e3) _ fun H4 e4 => ⟨_, _, _, _, rfl, num3 a b c, q H4 ((e2.trans e3).trans e4)⟩
def rReprI : List V → Hp → VK → Prop := fun xs H Q => ∃ i : Int, xs = [.int i] ∧ i.natAbs.log2 < 1920 ∧ Q (.str (toString i)) H
theorem cr_reprI {X : Cx} : CallR X (.builtin "repr") rReprI := SkE.call_repr_int
theorem ev_reprI {i : Int} (h : Ev te σ H (.int i)) (hb : i.natAbs.log2 < 1920) : Ev (tCB rReprI (tCons te tNil)) σ H (.str (toString i)) := fun H1 e Q q => h H1 e _ fun H2 e2 => ⟨i, rfl, hb, q H2 e2⟩
/-- min and max of a new list of numbers, told by what they are -/
theorem ev_minL {ns : List Int} {v : Int} (h : EvL te σ H (ns.map V.int)) (hne : 0 < ns.length) (hv : ∀ m, m ∈ ns → (∀ y, y ∈ ns → m ≤ y) → m = v) : Ev (tCB (rMin K) (tCons te tNil)) σ H (.int v) := fun H1 e Q q => h H1 e _ fun p H2 _ e2 h2 =>
  ⟨p, ns, rfl, sq_of h2, hne, fun m h1 h3 => by rw [hv m h1 h3]; exact q H2 e2⟩
theorem ev_maxL {ns : List Int} {v : Int} (h : EvL te σ H (ns.map V.int)) (hne : 0 < ns.length) (hv : ∀ m, m ∈ ns → (∀ y, y ∈ ns → y ≤ m) → m = v) : Ev (tCB (rMax K) (tCons te tNil)) σ H (.int v) := fun H1 e Q q => h H1 e _ fun p H2 _ e2 h2 =>
  ⟨p, ns, rfl, sq_of h2, hne, fun m h1 h3 => by rw [hv m h1 h3]; exact q H2 e2⟩
/-- the sum of a list that stands -/
theorem ev_sumR {p : Addr} {ns : List Int} (h : Ev te σ H (.ref p)) (hS : SqL K H p (ns.map V.int)) : Ev (tCB (rSum K) (tCons te tNil)) σ H (.int ns.sum) := fun H1 e Q q => h H1 e _ fun H2 e2 => ⟨p, ns, rfl, ex_l (e.trans e2) hS, q H2 e2⟩
theorem min2_nat (a b : Nat) : (if (b : Int) < (a : Int) then (b : Int) else (a : Int)) = ((min a b : Nat) : Int) := by split <;> omega
end
end My

set_option Elab.async false
set_option linter.all false
set_option maxRecDepth 100000
set_option maxHeartbeats 4000000
namespace My
open PySem PySem.Spec PyProof.Rows L2 Evl
section
variable {K : PySem.W.Frag} {σ : L2.St} {H : Hp} {ta tb tc td te : TE} {x y w u z v : V} {D : Ends} {tu tz : TS}
theorem et_chain {r r' : R2} {k1 k2 : Bool} (ha : Ev ta σ H x) (hb : Ev tb σ H y) (hc : Ev tc σ H w) (h1 : RV r x y H (.bl k1)) (h2 : RV r' y w H (.bl k2)) : EvT (tTest (tChain r r' ta tb tc)) σ H (k1 && k2) :=
  et_test fun H0 e0 Q q => ha H0 e0 _ fun H1 e1 => hb H1 (e0.trans e1) _ fun H2 e2 => h1 H2 ((e0.trans e1).trans e2) _ fun H3 e3 => ⟨k1, rfl, by
    cases k1 with
    | false => exact ite_ff (q H3 ((e1.trans e2).trans e3))
    | true => exact ite_tt (hc H3 (((e0.trans e1).trans e2).trans e3) _ fun H4 e4 => h2 H4 ((((e0.trans e1).trans e2).trans e3).trans e4) _ fun H5 e5 => q H5 ((((e1.trans e2).trans e3).trans e4).trans e5))⟩
/-- list(range(n)) -/
theorem el_listRg {n : Int} (h : Ev te σ H (.int n)) (h0 : 0 ≤ n) (h1 : n ≤ 40000) : EvL (tLstRg (tRg1 te)) σ H (rgV 0 n) := fun H1 e Q q =>
  h H1 e _ fun H2 e2 => ⟨n, rfl, by unfold RgOk; omega, fun l hl => q l _ (fresh_back e2 hl) (e2.trans (Ex.new hl)) upd_same⟩
theorem rgV_nat (n : Nat) : rgV 0 (n : Int) = nV (List.range n) := by
  unfold rgV nV
  rw [Int.sub_zero, Int.toNat_natCast]
  refine List.map_congr_left fun i _ => ?_
  rw [Int.zero_add]
/-- a call with two new lists -/
theorem q_callLL {i : Nat} {xs ys : List V} {sp : Sp} {E : XK} (ha : EvL ta σ H xs) (hb : EvL tb σ H ys)
    (k : ∀ p q H1, Ex H H1 → H1 p = some (.lst xs) → H1 q = some (.lst ys) → sp [.ref p, .ref q] H1 (fun x H2 => tz D (σ.set i (some x)) H2) E) : tSeq (tAsg (tCall sp [] E (tCons ta (tCons tb tNil))) (gName i)) tz D σ H :=
  ha H (Ex.refl H) _ fun p H1 hp e1 h1 => hb H1 e1 _ fun q H2 hq e2 h2 => k p q H2 (e1.trans e2) (e2 _ _ h1) h2
theorem q_callVL {i : Nat} {ys : List V} {sp : Sp} {E : XK} (ha : Ev ta σ H x) (hb : EvL tb σ H ys)
    (k : ∀ q H1, Ex H H1 → H1 q = some (.lst ys) → sp [x, .ref q] H1 (fun x H2 => tz D (σ.set i (some x)) H2) E) : tSeq (tAsg (tCall sp [] E (tCons ta (tCons tb tNil))) (gName i)) tz D σ H :=
  ha H (Ex.refl H) _ fun H1 e1 => hb H1 e1 _ fun q H2 hq e2 h2 => k q H2 (e1.trans e2) h2
/-- a call whose second argument of four is a new list -/
theorem ev_call4L2 {xs : List V} {sp : Sp} {E : XK} (ha : Ev ta σ H x) (hb : EvL tb σ H xs) (hc : Ev tc σ H y) (hd : Ev td σ H w) (hs : ∀ p H1, H1 p = some (.lst xs) → Ex H H1 → SpV sp [x, .ref p, y, w] H1 z) :
    Ev (tCall sp [] E (tCons ta (tCons tb (tCons tc (tCons td tNil))))) σ H z := fun H0 e0 Q q =>
  ha H0 e0 _ fun H1 e1 => hb H1 (e0.trans e1) _ fun p H2 hp e2 h2 => hc H2 ((e0.trans e1).trans e2) _ fun H3 e3 => hd H3 (((e0.trans e1).trans e2).trans e3) _ fun H4 e4 =>
    hs p H4 (e4 _ _ (e3 _ _ h2)) ((((e0.trans e1).trans e2).trans e3).trans e4) H4 (Ex.refl H4) Q (fun H5 e5 => q H5 ((((e1.trans e2).trans e3).trans e4).trans e5)) E
theorem q_callLV {i : Nat} {xs : List V} {sp : Sp} {E : XK} (ha : EvL ta σ H xs) (hb : Ev tb σ H y)
    (k : ∀ q H1, Ex H H1 → H1 q = some (.lst xs) → sp [.ref q, y] H1 (fun x H2 => tz D (σ.set i (some x)) H2) E) : tSeq (tAsg (tCall sp [] E (tCons ta (tCons tb tNil))) (gName i)) tz D σ H :=
  ha H (Ex.refl H) _ fun q H1 hq e1 h1 => hb H1 e1 _ fun H2 e2 => k q H2 (e1.trans e2) (e2 _ _ h1)
/-- over range(n), n may be below 0 -/
theorem el_lcRz {ta : TA} {t : L2.TT} {j : Nat} {vs : List Nat} {n : Int} (f : Nat → Bool) (v : Nat → V) (h : EvA ta σ H [.int n]) (hn : -40000 ≤ n ∧ n ≤ 40000) (hw : ∀ x, wipe ((wipe σ vs).set j (some x)) vs = wipe σ vs)
    (ht : ∀ (i : Nat) H1, Ex H H1 → (i : Int) < n → EvT t ((wipe σ vs).set j (some (.int (i : Int)))) H1 (f i)) (he : ∀ (i : Nat) H1, Ex H H1 → (i : Int) < n → f i = true → Ev te ((wipe σ vs).set j (some (.int (i : Int)))) H1 (v i)) :
    EvL (tLc (iRng1 ta) (gName j) t te vs) σ H (given n.toNat f v) := fun H0 e Q q => h H0 e _ fun H1 e1 => ⟨n, rfl, by omega, by omega, fun Dl hD =>
  lc_range (lo := 0) (n := n.toNat) (Cw H1 f v Dl) ⟨hD, Ex.new hD, upd_same⟩ (fun i H' hi p => by
    have e0 : (0 : Int) + (i : Int) = (i : Int) := Int.zero_add _
    show wipe ((wipe σ vs).set j (some (.int ((0 : Int) + (i : Int))))) vs = wipe σ vs ∧ t ((wipe σ vs).set j (some (.int ((0 : Int) + (i : Int))))) H' fun b H3 => if b = true then te ((wipe σ vs).set j (some (.int ((0 : Int) + (i : Int))))) H3 fun y H4 => ∃ acc, H4 Dl = some (.lst acc) ∧ acc.length < sizeLine ∧ Cw H1 f v Dl (i + 1) (upd H4 Dl (.lst (acc ++ [y]))) else Cw H1 f v Dl (i + 1) H3
    rw [e0]
    exact ⟨hw _, cw_turn p (by omega) (ht i H1 (e.trans e1) (by omega)) (fun hf => he i H1 (e.trans e1) (by omega) hf)⟩) (fun H' p => q Dl H' (fresh_back e1 p.1) (e1.trans p.2.1) p.2.2)⟩
/-- the least, the greatest of a new list, given to a name -/
theorem q_minL {i : Nat} {ns : List Int} (h : EvL te σ H (ns.map V.int)) (hne : 0 < ns.length) (k : ∀ m, m ∈ ns → (∀ y, y ∈ ns → m ≤ y) → ∀ H1, Ex H H1 → tz D (σ.set i (some (.int m))) H1) : tSeq (tAsg (tCB (rMin K) (tCons te tNil)) (gName i)) tz D σ H :=
  h H (Ex.refl H) _ fun p H1 _ e1 h1 => ⟨p, ns, rfl, sq_of h1, hne, fun m a b => k m a b H1 e1⟩
theorem q_maxL {i : Nat} {ns : List Int} (h : EvL te σ H (ns.map V.int)) (hne : 0 < ns.length) (k : ∀ m, m ∈ ns → (∀ y, y ∈ ns → y ≤ m) → ∀ H1, Ex H H1 → tz D (σ.set i (some (.int m))) H1) : tSeq (tAsg (tCB (rMax K) (tCons te tNil)) (gName i)) tz D σ H :=
  h H (Ex.refl H) _ fun p H1 _ e1 h1 => ⟨p, ns, rfl, sq_of h1, hne, fun m a b => k m a b H1 e1⟩
end
theorem log2_small {n : Nat} (h : n < 2 ^ 1000) : ((n : Nat) : Int).natAbs.log2 < 1920 := by
  rw [Int.natAbs_natCast]
  by_cases z : n = 0
  · subst z; decide
  · have := (Nat.log2_lt z).mpr h
    omega
theorem within_cons {ds : List Int} {s : Int} {ss : List Int} (h : Within ds (s :: ss)) : ∃ d rest, ds = d :: rest ∧ (0 ≤ d ∧ d < s) ∧ Within rest ss := by
  cases ds with
  | nil => exact h.elim
  | cons d rest => exact ⟨d, rest, rfl, h.1, h.2⟩
theorem sum_range_succ (f : Nat → Nat) (n : Nat) : ((List.range (n + 1)).map f).sum = f 0 + ((List.range n).map fun i => f (i + 1)).sum := by
  rw [List.range_succ_eq_map, List.map_cons, List.sum_cons, List.map_map]
  rfl
theorem sum_range_last (f : Nat → Nat) (n : Nat) : ((List.range (n + 1)).map f).sum = ((List.range n).map f).sum + f n := by
  rw [List.range_succ, List.map_append, List.sum_append]
  simp
end My

set_option Elab.async false
set_option linter.all false
set_option maxRecDepth 100000
set_option maxHeartbeats 4000000
namespace My
open PySem PySem.Spec PyProof.Rows L2 Evl
/-! ### enumerate(tuple), enumerate(text) -/
theorem meets_enum1 {v : Value} {o : Obj} {H : Heap → Prop} (B : Begins v o H) :
    Meets (Builtin.«enumerate.__new__» ⟨[.type "enumerate", v], []⟩) (fun _ R s => H s.heap ∧
      R (.ok (.ret (.ref (s.heap.push o).objs.size))) { s with heap := (s.heap.push o).push { cls := .type "enumerate", data := .fields #[.none, .bool false, .ref s.heap.objs.size, rawInt 0, .none, .none] } }) :=
  .of_wp fun prog w A R s h => by
    obtain ⟨hp, g, d, tk, os⟩ := s; obtain ⟨h1, h⟩ := h
    have hsub := sub_enumerate
    have q1 : ∀ {A' : Around} {E : Value → Shared → Prop} {Q : Value → Shared → Prop}, Q (.ref hp.objs.size) ⟨hp.push o, g, d, tk, os⟩ → wpAny (model prog w) A' (pyIter v) Q E ⟨hp, g, d, tk, os⟩ :=
      fun q => B.iter prog w _ _ ⟨hp, g, d, tk, os⟩ _ h1 q
    wp_walk using q1
    refine wpAny_stack_any fun st => wpAny_pure ?_
    split
    · rename_i c _ _ _ _ _
      cases (c == Value.type "enumerate")
      · wp_walk using q1
        exact ⟨_, rfl, h⟩
      · wp_walk using q1
        exact ⟨_, rfl, h⟩
    · wp_walk using q1
      exact ⟨_, rfl, h⟩
theorem enum_one {prog : Program} {w : World} {A : Around} {E : Value → Shared → Prop} {s : Shared} {v : Value} {o : Obj} {H : Heap → Prop} {Q : Value → Shared → Prop} (B : Begins v o H) (h1 : H s.heap)
    (h : ∀ h', IsEnum h' (s.heap.objs.size + 1) s.heap.objs.size 0 .none → h'.get? s.heap.objs.size = some o → h'.objs.size = s.heap.objs.size + 2 →
      (∀ b o, s.heap.get? b = some o → h'.get? b = some o) → Q (.ref (s.heap.objs.size + 1)) { s with heap := h' }) :
    wpAny (model prog w) A (call (.type "enumerate") [v]) Q E s := by
  refine callType_new F.called_enumerate (by decide) (F.typeCall_enumerate_1 _) (F.newCall_enumerate_1 _) (fun obj => F.args_object_init_2 obj _) F.entry_enumerate_new
    (meets_enum1 B) ⟨h1, ?_⟩
  have hz : (s.heap.push o).objs.size = s.heap.objs.size + 1 := Heap.size_push ..
  show _ ∧ _
  rw [hz]
  have he : IsEnum ((s.heap.push o).push { cls := .type "enumerate", data := .fields #[.none, .bool false, .ref s.heap.objs.size, rawInt 0, .none, .none] }) (s.heap.objs.size + 1) s.heap.objs.size 0 .none := by
    have := Heap.get?_push_size (s.heap.push o) (o := { cls := .type "enumerate", data := .fields #[.none, .bool false, .ref s.heap.objs.size, rawInt 0, .none, .none] }) rfl
    rw [hz] at this; exact this
  refine ⟨⟨_, he, rfl⟩, h _ he (Heap.get?_push_of_some _ (Heap.get?_push_size _ B.free)) (by rw [Heap.size_push, hz]) fun b o x => Heap.get?_push_of_some _ (Heap.get?_push_of_some _ x)⟩
theorem enum_endT {prog : Program} {w : World} {A : Around} {E : Value → Shared → Prop} {s : Shared} {e it l : Addr} {i : Nat} {items : Array Value} {old : Value} {Q : Option Value → Shared → Prop} (hh : A.handled = none)
    (he : IsEnum s.heap e it i old) (hit : s.heap.IsTupleIter it l i) (hl : s.heap.IsTuple l items) (hx : items[i]? = none)
    (hQ : ∀ h', Heap.ExtBut it s.heap h' → Q none { s with heap := h' }) : wpAny (model prog w) A (pyNext (.ref e)) Q E s := by
  have hT : s.TypeIs (.ref e) "enumerate" := ⟨_, he, rfl⟩
  unfold pyNext
  refine wpAny_bind (wpAny_attempt (wpAny_callSpecial?_slot (name := Str.ofString "__next__") hT F.slot_enumerate_next
    (wpAny_call_entry F.slot_enumerate_next hT F.entry_enumerate_next ?_ (F.args_enumerate_next_1 _))))
  show wpAny _ _ (field (.ref e) 2 >>= _) _ _ _
  refine wpAny_bind (wpAny_field he rfl (x := .ref it) rfl ?_)
  refine wpAny_bind (wpAny_nextOf_tuple_end hh hit hl hx fun h' x he' hx' => ?_)
  obtain ⟨o, ho, hc⟩ := hx'
  refine wpAny_bind (wpAny_isInstance (T := "StopIteration") (b := true) ⟨o, ho, hc⟩ isSubtype_stop ?_)
  exact wpAny_pure (hQ _ he')
/-- the tuple at a -/
def IteT (K : PySem.W.Frag) (a : Addr) : It :=
  ⟨fun i H => ∃ (xs : List V) (x : V), SqT K H a xs ∧ xs[i]? = some x, fun i H v H' => ∃ T x, v = .ref T ∧ H T = none ∧ H' = upd H T (.tup [.int (i : Nat), x]) ∧ ∀ xs, SqT K H a xs → xs[i]? = some x, fun i H => ∃ xs : List V, SqT K H a xs ∧ xs.length ≤ i⟩
/-- the text x -/
def IteS (x : Str) : It :=
  ⟨fun i _ => i < x.cps.size, fun i H v H' => ∃ T c, v = .ref T ∧ H T = none ∧ H' = upd H T (.tup [.int (i : Nat), .str ⟨#[c]⟩]) ∧ x.cps[i]? = some c, fun i _ => x.cps.size ≤ i⟩
theorem turn_enumT {P : Program} {w : World} {K : PySem.W.Frag} {elts : List Expr} {kk : Nat} {tpos : Pos} (a e it : Addr) :
    Turn P w K (.Tuple elts kk tpos) (IteT K a) [e, it] e (fun i h => (∃ old, IsEnum h e it ((i : Nat) : Int) old) ∧ h.IsTupleIter it a i ∧ e ≠ it ∧ e ≠ a ∧ a ≠ it) where
  mem := by simp
  obj := fun i h st b hb => by
    obtain ⟨⟨old, he⟩, ⟨o, ho, hc, hd⟩, _⟩ := st
    have e' : b = e ∨ b = it := by simpa using hb
    rcases e' with z | z
    · rw [z]; exact ⟨_, he, fun v q => nomatch q⟩
    · rw [z]; exact ⟨o, ho, fun v q => by rw [hd] at q; cases q⟩
  keep := fun i h h' st k => let ⟨⟨old, he⟩, hi, hne⟩ := st; ⟨⟨old, k e (by simp) _ he⟩, hi.at fun o q => k it (by simp) o q, hne⟩
  item := by
    intro X hP hw hK hc i pins s σ H E I hf st hg
    subst hP hw hK
    obtain ⟨⟨old, he⟩, hit, hne, hea, hai⟩ := st
    obtain ⟨xs, x, hq, hx⟩ := hg
    obtain ⟨its, rv, p, hz⟩ := I.tuple hq
    obtain ⟨u, hu, ru⟩ := rv.get hx
    have hel : e < s.heap.objs.size := Heap.lt_size he
    have hil : it < s.heap.objs.size := by obtain ⟨_, q, _⟩ := hit; exact Heap.lt_size q
    refine wpAny_pyNext_enum_itemD (Draws.tuple (A := X.A.in1) (I.ok.hd hc) it a hai its.toArray) he ⟨hit, p⟩ (by
      have := (List.getElem?_eq_some_iff.mp hu).1
      simpa using this) hne (by simp [hne, hea]) fun u' h' tk hu' ho hst' hT hsz hk => ?_
    have hu2 : u' = u := by
      have h1 : its[i]? = some u' := by simpa using hu'
      rw [hu] at h1
      exact (Option.some.inj h1).symm
    subst hu2
    refine ⟨_, rfl, wpAny_letOwnedTupleGo_enum (s := { s with heap := h', toks := tk + 1 }) ho fun h'' he' sb => ?_⟩
    have hT2 : h''.get? s.heap.objs.size = some { cls := .type "tuple", data := .seq #[.int i tk, u'] } := (sb.2 _ (Nat.ne_of_gt hel)).trans hT
    have new : ObjOk X.prog X.w (upd H s.heap.objs.size (.tup [.int (i : Nat), x])) h'' s.heap.objs.size (.tup [.int (i : Nat), x]) :=
      ⟨by show 2 ≤ sizeLine; decide, [.int i tk, u'], .cons ⟨_, rfl⟩ (.cons ru .nil), ⟨_, hT2, rfl, _, rfl⟩⟩
    have I1 : Inv X pins σ (upd H s.heap.objs.size (.tup [.int (i : Nat), x])) { s with heap := h'', toks := tk + 1 } :=
      I.turnedNew (ch := [e, it]) (fun b ob hb q => (sb.2 b (fun z => hb (by simp [z]))).trans (hk b ob (fun z => hb (by simp [z])) (fun z => hb (by simp [z])) q)) hf (Nat.le_refl _) new
    refine ⟨.ref s.heap.objs.size, _, I1, rfl, ⟨_, x, rfl, I.hok.fresh (Nat.le_refl _), rfl, fun ys hy => by
      obtain ⟨its2, rv2, p2, _⟩ := I.tuple hy
      have hq2 : ys = xs := I.tuple_inj hy hq
      rw [hq2]; exact hx⟩, ⟨⟨u', ?_⟩, hst'.1.at fun o q => (sb.2 it (Ne.symm hne)).trans q, hne, hea, hai⟩, fun b hb => ?_⟩
    · have e1 : ((i + 1 : Nat) : Int) = (i : Int) + 1 := by omega
      rw [e1]; exact he'
    · have hb' : b < s.heap.objs.size := by
        have e' : b = e ∨ b = it := by simpa using hb
        rcases e' with z | z
        · rw [z]; exact hel
        · rw [z]; exact hil
      rw [upd_ne (Nat.ne_of_lt hb')]
      exact (hf b hb).1
  done := by
    intro X hP hw hK hc i pins s σ H E I hf st hg
    subst hP hw hK
    obtain ⟨⟨old, he⟩, hit, hne, hea, hai⟩ := st
    obtain ⟨xs, hq, hx⟩ := hg
    obtain ⟨its, rv, p, hz⟩ := I.tuple hq
    obtain ⟨f0, f1, f2, f3, f4, f5⟩ := hf it (by simp)
    have hl := rv.length
    exact enum_endT (I.ok.hd hc) he hit p (by simp; omega) fun h' eb => ⟨rfl, I.turned (t' := s.toks) (fun b o hb q => eb b o hb q) f0 f1 f3 f4 f5⟩
  self := fun A i s Q E st h => let ⟨⟨_, he⟩, _⟩ := st; wpAny_pyIter_enum he h
theorem turn_enumS {P : Program} {w : World} {K : PySem.W.Frag} {elts : List Expr} {kk : Nat} {tpos : Pos} (z : Str) (t : Tok) (e it : Addr) :
    Turn P w K (.Tuple elts kk tpos) (IteS z) [e, it] e (fun i h => i ≤ z.cps.size ∧ (∃ old, IsEnum h e it ((i : Nat) : Int) old) ∧ h.IsStrIter it (strIterType z) z t i ∧ e ≠ it) where
  mem := by simp
  obj := fun i h st b hb => by
    obtain ⟨_, ⟨old, he⟩, ⟨o, ho, hc, hd⟩, _⟩ := st
    have e' : b = e ∨ b = it := by simpa using hb
    rcases e' with z | z
    · rw [z]; exact ⟨_, he, fun v q => nomatch q⟩
    · rw [z]; exact ⟨o, ho, fun v q => by rw [hd] at q; cases q⟩
  keep := fun i h h' st k => let ⟨hi0, ⟨old, he⟩, ⟨o, ho, r⟩, hne⟩ := st; ⟨hi0, ⟨old, k e (by simp) _ he⟩, ⟨o, k it (by simp) o ho, r⟩, hne⟩
  item := by
    intro X hP hw hK hc i pins s σ H E I hf st hg
    subst hP hw hK
    obtain ⟨hi0, ⟨old, he⟩, hit, hne⟩ := st
    have hgi : i < z.cps.size := hg
    have hel : e < s.heap.objs.size := Heap.lt_size he
    have hil : it < s.heap.objs.size := by obtain ⟨_, q, _⟩ := hit; exact Heap.lt_size q
    refine wpAny_pyNext_enum_itemD (Draws.text (A := X.A.in1) (I.ok.hd hc) it z t) he hit hgi hne (by simp [hne]) fun u' h' tk hu' ho hst' hT hsz hk => ?_
    obtain ⟨c, u, hcu, rfl⟩ := hu'
    refine ⟨_, rfl, wpAny_letOwnedTupleGo_enum (s := { s with heap := h', toks := tk + 1 }) ho fun h'' he' sb => ?_⟩
    have hT2 : h''.get? s.heap.objs.size = some { cls := .type "tuple", data := .seq #[.int i tk, .str ⟨#[c]⟩ u] } := (sb.2 _ (Nat.ne_of_gt hel)).trans hT
    have new : ObjOk X.prog X.w (upd H s.heap.objs.size (.tup [.int (i : Nat), .str ⟨#[c]⟩])) h'' s.heap.objs.size (.tup [.int (i : Nat), .str ⟨#[c]⟩]) :=
      ⟨by show 2 ≤ sizeLine; decide, [.int i tk, .str ⟨#[c]⟩ u], .cons ⟨_, rfl⟩ (.cons ⟨_, rfl⟩ .nil), ⟨_, hT2, rfl, _, rfl⟩⟩
    have I1 : Inv X pins σ (upd H s.heap.objs.size (.tup [.int (i : Nat), .str ⟨#[c]⟩])) { s with heap := h'', toks := tk + 1 } :=
      I.turnedNew (ch := [e, it]) (fun b ob hb q => (sb.2 b (fun z => hb (by simp [z]))).trans (hk b ob (fun z => hb (by simp [z])) (fun z => hb (by simp [z])) q)) hf (Nat.le_refl _) new
    refine ⟨.ref s.heap.objs.size, _, I1, rfl, ⟨_, c, rfl, I.hok.fresh (Nat.le_refl _), rfl, hcu⟩, ⟨hgi, ⟨.str ⟨#[c]⟩ u, ?_⟩, ?_, hne⟩, fun b hb => ?_⟩
    · have e1 : ((i + 1 : Nat) : Int) = (i : Int) + 1 := by omega
      rw [e1]; exact he'
    · obtain ⟨o, ho2, r⟩ := hst'
      exact ⟨o, (sb.2 it (Ne.symm hne)).trans ho2, r⟩
    · have hb' : b < s.heap.objs.size := by
        have e' : b = e ∨ b = it := by simpa using hb
        rcases e' with z | z
        · rw [z]; exact hel
        · rw [z]; exact hil
      rw [upd_ne (Nat.ne_of_lt hb')]
      exact (hf b hb).1
  done := by
    intro X hP hw hK hc i pins s σ H E I hf st hg
    subst hP hw hK
    obtain ⟨hi0, ⟨old, he⟩, hit, hne⟩ := st
    have hgi : z.cps.size ≤ i := hg
    have hi : i = z.cps.size := by omega
    subst hi
    obtain ⟨f0, f1, f2, f3, f4, f5⟩ := hf it (by simp)
    exact wpAny_pyNext_enum_endD (Draws.text (A := X.A.in1) (I.ok.hd hc) it z t) he hit fun h' eb => ⟨rfl, I.turned (t' := s.toks) (fun b o hb q => eb b o hb q) f0 f1 f3 f4 f5⟩
  self := fun A i s Q E st h => let ⟨_, ⟨_, he⟩, _⟩ := st; wpAny_pyIter_enum he h
def iEnumT (K : PySem.W.Frag) (ta : TA) : TI := fun σ H R => ta σ H fun vs H1 => ∃ a xs, vs = [.ref a] ∧ SqT K H1 a xs ∧ R (IteT K a) H1
def iEnumS (ta : TA) : TI := fun σ H R => ta σ H fun vs H1 => ∃ x, vs = [.str x] ∧ R (IteS x) H1
theorem pi_enumT {X : Cx} {e : Expr} {ta : TA} {p pos tpos : Pos} {elts : List Expr} {kk : Nat} (hg : Gl X "enumerate") (hm : X.mg "enumerate" = none) (ha : PA X [e] ta) (hs : starEach [e] X.env = [(false, eval e X.env)] := by rfl) :
    PI X (.Tuple elts kk tpos) (.Call (.Name "enumerate" p) [e] [] pos) (iEnumT X.K ta) := by
  refine ⟨fun pins s σ H R I h => ?_⟩
  refine Call_ (ld_blt I hg hm boot_enumerate (PyProof.Rows.callWith_type1 (thn (ha.run pos pins s σ H _ I h) fun us s1 ⟨vs, H1, I1, r1, q1⟩ => ?_) hs rfl))
  obtain ⟨a, xs, ex, hq, q⟩ := q1
  subst ex
  cases r1 with
  | cons r rr =>
    cases rr
    cases r
    obtain ⟨its, rv, p', hz⟩ := I1.tuple hq
    have hal : a < s1.heap.objs.size := by obtain ⟨_, q, _⟩ := id p'; exact Heap.lt_size q
    refine enum_one (begins_tuple a its.toArray) p' fun h' he hit hsz hk => wpAny_pyIter_enum he ?_
    have I2 : Inv X pins σ H1 { s1 with heap := h' } := I1.kept (t' := s1.toks) hk
    refine ⟨s1.heap.objs.size + 1, [s1.heap.objs.size + 1, s1.heap.objs.size], _, _, H1, rfl, I2, turn_enumT a (s1.heap.objs.size + 1) s1.heap.objs.size, ⟨⟨.none, he⟩, ⟨_, hit, rfl, rfl⟩, Nat.succ_ne_self _, Nat.ne_of_gt (Nat.lt_succ_of_lt hal), Nat.ne_of_lt hal⟩, fun b hb => ?_, q⟩
    have e' : b = s1.heap.objs.size + 1 ∨ b = s1.heap.objs.size := by simpa using hb
    have hle : s1.heap.objs.size ≤ b := by
      rcases e' with z | z
      · rw [z]; exact Nat.le_add_right _ _
      · rw [z]; exact Nat.le_refl _
    exact I1.fpOk hle (I1.hok.fresh hle)
theorem pi_enumS {X : Cx} {e : Expr} {ta : TA} {p pos tpos : Pos} {elts : List Expr} {kk : Nat} (hg : Gl X "enumerate") (hm : X.mg "enumerate" = none) (ha : PA X [e] ta) (hs : starEach [e] X.env = [(false, eval e X.env)] := by rfl) :
    PI X (.Tuple elts kk tpos) (.Call (.Name "enumerate" p) [e] [] pos) (iEnumS ta) := by
  refine ⟨fun pins s σ H R I h => ?_⟩
  refine Call_ (ld_blt I hg hm boot_enumerate (PyProof.Rows.callWith_type1 (thn (ha.run pos pins s σ H _ I h) fun us s1 ⟨vs, H1, I1, r1, q1⟩ => ?_) hs rfl))
  obtain ⟨x, ex, q⟩ := q1
  subst ex
  cases r1 with
  | cons r rr =>
    cases rr
    obtain ⟨t, rfl⟩ := r
    refine enum_one (begins_text x t) trivial fun h' he hit hsz hk => wpAny_pyIter_enum he ?_
    have I2 : Inv X pins σ H1 { s1 with heap := h' } := I1.kept (t' := s1.toks) hk
    refine ⟨s1.heap.objs.size + 1, [s1.heap.objs.size + 1, s1.heap.objs.size], _, _, H1, rfl, I2, turn_enumS x t (s1.heap.objs.size + 1) s1.heap.objs.size, ⟨Nat.zero_le _, ⟨.none, he⟩, ⟨_, hit, rfl, rfl⟩, Nat.succ_ne_self _⟩, fun b hb => ?_, q⟩
    have e' : b = s1.heap.objs.size + 1 ∨ b = s1.heap.objs.size := by simpa using hb
    have hle : s1.heap.objs.size ≤ b := by
      rcases e' with z | z
      · rw [z]; exact Nat.le_add_right _ _
      · rw [z]; exact Nat.le_refl _
    exact I1.fpOk hle (I1.hok.fresh hle)
end My

set_option linter.all false
namespace My
/-! ### the cut of a text: rows (parent, letter), the place reached -/
def ixR : Nat → List (Nat × Nat) → Nat × Nat → Option Nat
  | _, [], _ => none
  | n, r :: rs, x => if r = x then some n else ixR (n + 1) rs x
def stepC (s : List (Nat × Nat) × Nat) (c : Nat) : List (Nat × Nat) × Nat :=
  match ixR 1 s.1 (s.2, c) with
  | some n => (s.1, n)
  | none => (s.1 ++ [(s.2, c)], 0)
def cutC (text : List Nat) : List (Nat × Nat) × Nat := text.foldl stepC ([], 0)
/-- the texts of the pieces, piece 0 first -/
def piF (rows : List (Nat × Nat)) : List (List Nat) := rows.foldl (fun ps r => ps ++ [ps.getD r.1 [] ++ [r.2]]) [[]]
theorem piF_snoc (rows : List (Nat × Nat)) (r : Nat × Nat) : piF (rows ++ [r]) = piF rows ++ [(piF rows).getD r.1 [] ++ [r.2]] := by
  unfold piF
  rw [List.foldl_append]
  rfl
theorem snoc_ind {α : Type} {P : List α → Prop} (h0 : P []) (hs : ∀ l a, P l → P (l ++ [a])) (l : List α) : P l := by
  have h : ∀ l : List α, P l.reverse := fun l => by
    induction l with
    | nil => exact h0
    | cons a l ih => rw [List.reverse_cons]; exact hs _ _ ih
  have := h l.reverse
  rwa [List.reverse_reverse] at this
theorem piF_len (rows : List (Nat × Nat)) : (piF rows).length = rows.length + 1 := by
  induction rows using snoc_ind with
  | h0 => rfl
  | hs l a ih => rw [piF_snoc, List.length_append, List.length_append, ih]; rfl
theorem piF_zero (rows : List (Nat × Nat)) : (piF rows).getD 0 [] = [] := by
  induction rows using snoc_ind with
  | h0 => rfl
  | hs l a ih =>
    have := piF_len l
    rw [piF_snoc, List.getD_eq_getElem?_getD, List.getElem?_append_left (by omega), ← List.getD_eq_getElem?_getD, ih]
theorem getD_left {α : Type} {a b : List α} {i : Nat} {d : α} (h : i < a.length) : (a ++ b).getD i d = a.getD i d := by
  rw [List.getD_eq_getElem?_getD, List.getElem?_append_left h, ← List.getD_eq_getElem?_getD]
theorem getD_last {α : Type} {a : List α} {x d : α} : (a ++ [x]).getD a.length d = x := by
  rw [List.getD_eq_getElem?_getD, List.getElem?_append_right (Nat.le_refl _), Nat.sub_self]
  rfl
/-- piece i + 1 is what its row says -/
theorem piF_row {rows : List (Nat × Nat)} (hp : ∀ (i : Nat) (r : Nat × Nat), rows[i]? = some r → r.1 ≤ i) : ∀ {i : Nat} {r : Nat × Nat}, rows[i]? = some r → (piF rows).getD (i + 1) [] = (piF rows).getD r.1 [] ++ [r.2] := by
  induction rows using snoc_ind with
  | h0 => intro i r h; cases h
  | hs l a ih =>
    have hl := piF_len l
    intro i r h
    have hpr := hp i r h
    have hi : i < l.length + 1 := by
      have := (List.getElem?_eq_some_iff.mp h).1
      rw [List.length_append] at this
      exact this
    rw [piF_snoc]
    by_cases e : i < l.length
    · rw [List.getElem?_append_left e] at h
      rw [getD_left (by omega), getD_left (by omega)]
      exact ih (fun j q hq => hp j q (by rw [List.getElem?_append_left (List.getElem?_eq_some_iff.mp hq).1]; exact hq)) h
    · have ei : i = l.length := by omega
      subst ei
      rw [List.getElem?_append_right (Nat.le_refl _), Nat.sub_self] at h
      cases Option.some.inj h
      rw [show l.length + 1 = (piF l).length by omega, getD_last, getD_left (by omega)]
theorem ixR_some : ∀ {n : Nat} {rs : List (Nat × Nat)} {x : Nat × Nat} {k : Nat}, ixR n rs x = some k → n ≤ k ∧ rs[k - n]? = some x
  | n, [], x, k, h => by cases h
  | n, r :: rs, x, k, h => by
    unfold ixR at h
    by_cases e : r = x
    · rw [if_pos e] at h
      cases Option.some.inj h
      rw [Nat.sub_self]
      exact ⟨Nat.le_refl _, congrArg some e⟩
    · rw [if_neg e] at h
      obtain ⟨a, b⟩ := ixR_some h
      refine ⟨by omega, ?_⟩
      rw [show k - n = (k - (n + 1)) + 1 by omega]
      exact b
theorem ixR_none : ∀ {n : Nat} {rs : List (Nat × Nat)} {x : Nat × Nat}, ixR n rs x = none → x ∉ rs
  | n, [], x, h => List.not_mem_nil
  | n, r :: rs, x, h => by
    unfold ixR at h
    by_cases e : r = x
    · rw [if_pos e] at h; cases h
    · rw [if_neg e] at h
      intro hm
      rcases List.mem_cons.mp hm with rfl | hm
      · exact e rfl
      · exact ixR_none h hm
/-- what holds of a cut of what was read -/
structure CutOk (text : List Nat) (rows : List (Nat × Nat)) (at_ : Nat) : Prop where
  nd : rows.Nodup
  par : ∀ (i : Nat) (r : Nat × Nat), rows[i]? = some r → r.1 ≤ i
  let_ : ∀ (i : Nat) (r : Nat × Nat), rows[i]? = some r → r.2 ∈ text
  at_le : at_ ≤ rows.length
  joined : ((piF rows).tail).flatten ++ (piF rows).getD at_ [] = text
theorem cutOk_nil : CutOk [] [] 0 := ⟨List.nodup_nil, fun _ _ h => by (cases h), fun _ _ h => by (cases h), Nat.le_refl _, rfl⟩
theorem nodup_snoc {α : Type} {l : List α} {a : α} (h : l.Nodup) (ha : a ∉ l) : (l ++ [a]).Nodup := by
  rw [List.nodup_append]
  refine ⟨h, by simp, fun x hx y hy => ?_⟩
  rw [List.mem_singleton.mp hy]
  exact fun e => ha (e ▸ hx)
theorem tail_snoc {α : Type} {l : List α} {a : α} (h : 0 < l.length) : (l ++ [a]).tail = l.tail ++ [a] := by
  cases l with
  | nil => exact absurd h (Nat.lt_irrefl _)
  | cons b l => rfl
theorem cutOk_step {text : List Nat} {rows : List (Nat × Nat)} {at_ c : Nat} (h : CutOk text rows at_) : CutOk (text ++ [c]) (stepC (rows, at_) c).1 (stepC (rows, at_) c).2 := by
  have hl := piF_len rows
  unfold stepC
  cases e : ixR 1 rows (at_, c) with
  | some k =>
    obtain ⟨a, b⟩ := ixR_some e
    have hk := (List.getElem?_eq_some_iff.mp b).1
    have hrow := piF_row h.par b
    rw [show k - 1 + 1 = k by omega] at hrow
    refine ⟨h.nd, h.par, fun i r hr => List.mem_append_left _ (h.let_ i r hr), by show k ≤ rows.length; omega, ?_⟩
    show _ ++ (piF rows).getD k [] = _
    rw [hrow, ← List.append_assoc, h.joined]
  | none =>
    have hn := ixR_none e
    have he := h.at_le
    refine ⟨nodup_snoc h.nd hn, fun i r hr => ?_, fun i r hr => ?_, Nat.zero_le _, ?_⟩
    · by_cases hi : i < rows.length
      · rw [List.getElem?_append_left hi] at hr
        exact h.par i r hr
      · have := (List.getElem?_eq_some_iff.mp hr).1
        rw [List.length_append] at this
        have ei : i = rows.length := by simp at this; omega
        subst ei
        rw [List.getElem?_append_right (Nat.le_refl _), Nat.sub_self] at hr
        cases Option.some.inj hr
        exact he
    · by_cases hi : i < rows.length
      · rw [List.getElem?_append_left hi] at hr
        exact List.mem_append_left _ (h.let_ i r hr)
      · have := (List.getElem?_eq_some_iff.mp hr).1
        rw [List.length_append] at this
        have ei : i = rows.length := by simp at this; omega
        subst ei
        rw [List.getElem?_append_right (Nat.le_refl _), Nat.sub_self] at hr
        cases Option.some.inj hr
        exact List.mem_append_right _ (by simp)
    · show ((piF (rows ++ [(at_, c)])).tail).flatten ++ (piF (rows ++ [(at_, c)])).getD 0 [] = _
      rw [piF_zero, List.append_nil, piF_snoc, tail_snoc (by omega), List.flatten_append]
      simp only [List.flatten_cons, List.flatten_nil, List.append_nil]
      rw [← List.append_assoc, h.joined]
theorem cutC_snoc (text : List Nat) (c : Nat) : cutC (text ++ [c]) = stepC (cutC text) c := by
  unfold cutC
  rw [List.foldl_append]
  rfl
theorem cutOk (text : List Nat) : CutOk text (cutC text).1 (cutC text).2 := by
  induction text using snoc_ind with
  | h0 => exact cutOk_nil
  | hs l a ih => rw [cutC_snoc]; exact cutOk_step ih
/-- a piece is no longer than its number -/
theorem piF_short {rows : List (Nat × Nat)} (hp : ∀ (i : Nat) (r : Nat × Nat), rows[i]? = some r → r.1 ≤ i) : ∀ i, i ≤ rows.length → ((piF rows).getD i []).length ≤ i := by
  intro i
  induction i using Nat.strongRecOn with
  | ind i ih =>
    intro hi
    cases i with
    | zero => rw [piF_zero]; exact Nat.le_refl _
    | succ i =>
      obtain ⟨r, hr⟩ : ∃ r, rows[i]? = some r := ⟨_, List.getElem?_eq_getElem (by omega)⟩
      have h1 := hp i r hr
      have h2 := ih r.1 (by omega) (by omega)
      rw [piF_row hp hr, List.length_append]
      show _ + 1 ≤ _
      omega
theorem nodup_idx {α : Type} {l : List α} (nd : l.Nodup) {i j : Nat} (hi : i < l.length) (hj : j < l.length) (e : l[i] = l[j]) : i = j := by
  have h := List.pairwise_iff_getElem.mp nd
  rcases Nat.lt_trichotomy i j with z | z | z
  · exact absurd e (h i j hi hj z)
  · exact z
  · exact absurd e.symm (h j i hj hi z)
/-- pieces are told by their texts -/
theorem piF_inj {rows : List (Nat × Nat)} (nd : rows.Nodup) (hp : ∀ (i : Nat) (r : Nat × Nat), rows[i]? = some r → r.1 ≤ i) : ∀ i j, i ≤ rows.length → j ≤ rows.length → (piF rows).getD i [] = (piF rows).getD j [] → i = j := by
  intro i
  induction i using Nat.strongRecOn with
  | ind i ih =>
    intro j hi hj e
    cases i with
    | zero =>
      cases j with
      | zero => rfl
      | succ j =>
        obtain ⟨r, hr⟩ : ∃ r, rows[j]? = some r := ⟨_, List.getElem?_eq_getElem (by omega)⟩
        rw [piF_zero, piF_row hp hr] at e
        simp at e
    | succ i =>
      obtain ⟨q, hq⟩ : ∃ q, rows[i]? = some q := ⟨_, List.getElem?_eq_getElem (by omega)⟩
      rw [piF_row hp hq] at e
      cases j with
      | zero =>
        rw [piF_zero] at e
        simp at e
      | succ j =>
        obtain ⟨r, hr⟩ : ∃ r, rows[j]? = some r := ⟨_, List.getElem?_eq_getElem (by omega)⟩
        rw [piF_row hp hr] at e
        have h1 := hp i q hq
        have h2 := hp j r hr
        obtain ⟨e1, e2⟩ := List.append_inj' e rfl
        have e3 := ih q.1 (by omega) r.1 (by omega) (by omega) e1
        have e4 : q.2 = r.2 := by simpa using e2
        have e5 : q = r := Prod.ext e3 e4
        rw [e5] at hq
        have h5 := (List.getElem?_eq_some_iff.mp hq).1
        have : i = j := by
          have h6 := (List.getElem?_eq_some_iff.mp hr).1
          have a1 := (List.getElem?_eq_some_iff.mp hq).2
          have a2 := (List.getElem?_eq_some_iff.mp hr).2
          exact nodup_idx nd h5 h6 (a1.trans a2.symm)
        omega
end My

set_option Elab.async false
set_option linter.all false
set_option maxRecDepth 100000
set_option maxHeartbeats 4000000
namespace My
open PySem PySem.Spec PyProof.Rows L2 Evl
open SX (S S_len S_cat S_beq S_beq_eq S_inj S_tl)
/-! ### methods and classes at their names -/
structure AtM (K : PySem.W.Frag) (C : Addr) (m qual : Str) (st : Stmt) : Prop where
  ex : ∃ (f : Addr) (fd : FuncData), FunD K m qual (defArgs st) (defBody st) (defScope st) [] [] f fd ∧ Meth K C m f
structure AtI (K : PySem.W.Frag) (C : Addr) (qual : Str) (st : Stmt) : Prop where
  ex : ∃ (f : Addr) (fd : FuncData), FunD K "__init__" qual (defArgs st) (defBody st) (defScope st) [] [] f fd ∧ Mk K C f
structure DnM (P : Program) (w : World) (K : PySem.W.Frag) (mg : Str → Option Value) (base : Heap) (k : Nat) (C : Addr) (m : Str) (ps : List Str) (sp : Sp) : Prop where
  ex : ∃ (f : Addr) (fd : FuncData), FnOk P w K mg base CX0 k f fd ps sp ∧ Meth K C m f ∧ Binds K fd ps []
structure DnI (P : Program) (w : World) (K : PySem.W.Frag) (mg : Str → Option Value) (base : Heap) (k : Nat) (C : Addr) (ps : List Str) (sp : Sp) : Prop where
  ex : ∃ (f : Addr) (fd : FuncData), FnOk P w K mg base CX0 k f fd ps sp ∧ Mk K C f ∧ Binds K fd ps []
section
variable {P : Program} {w : World} {K : PySem.W.Frag} {mg : Str → Option Value} {base : Heap} {m qual : Str} {C : Addr} {st : Stmt} {N ps : List Str} {k : Nat} {sp : Sp}
theorem dnm_ok (F : AtM K C m qual st) (S : FnScope N ps (defScope st))
    (hb : ∀ (kV doc pm : Value) (an : Option Addr) (cdv ct : Value) (us : List Value), us.length = ps.length → bindArgs (PySem.W.fnOf m qual (defArgs st) (defBody st) (defScope st) .none kV doc pm an cdv ct) ⟨us, []⟩ = pure (ps.zip us))
    (len : ∀ vs H Q E, sp vs H Q E → vs.length = ps.length)
    (hbody : ∀ (f : Addr) (cdv : Value) (A : Around) (outer : List Env) (s : Shared) (H : Hp) (vs : List V) (Q : VK) (E : XK), Room k (A.deeper (envOfC qual (defScope st) s.heap.objs.size f cdv)) → sp vs H Q E →
      ∃ t, PSs (cxOf CX0 P w K mg base N qual (defScope st) f cdv A outer s H E).nox (defBody st) t ∧ t { nx := fun _ H' => Q .non H', rt := Q } (start N vs) H) : DnM P w K mg base (k + 1) C m ps sp := by
  obtain ⟨f, fd, F, g⟩ := F.ex
  refine ⟨f, fd, FunD.ok F S len (fun cdv A outer s H vs Q E hr h => ?_), g, F.bindsN hb⟩
  obtain ⟨t, h1, h2⟩ := hbody f cdv A outer s H vs Q E hr h
  exact ⟨t, PSs.nox h1, h2⟩
theorem dni_ok (F : AtI K C qual st) (S : FnScope N ps (defScope st))
    (hb : ∀ (kV doc pm : Value) (an : Option Addr) (cdv ct : Value) (us : List Value), us.length = ps.length → bindArgs (PySem.W.fnOf "__init__" qual (defArgs st) (defBody st) (defScope st) .none kV doc pm an cdv ct) ⟨us, []⟩ = pure (ps.zip us))
    (len : ∀ vs H Q E, sp vs H Q E → vs.length = ps.length)
    (hbody : ∀ (f : Addr) (cdv : Value) (A : Around) (outer : List Env) (s : Shared) (H : Hp) (vs : List V) (Q : VK) (E : XK), Room k (A.deeper (envOfC qual (defScope st) s.heap.objs.size f cdv)) → sp vs H Q E →
      ∃ t, PSs (cxOf CX0 P w K mg base N qual (defScope st) f cdv A outer s H E).nox (defBody st) t ∧ t { nx := fun _ H' => Q .non H', rt := Q } (start N vs) H) : DnI P w K mg base (k + 1) C ps sp := by
  obtain ⟨f, fd, F, g⟩ := F.ex
  refine ⟨f, fd, FunD.ok F S len (fun cdv A outer s H vs Q E hr h => ?_), g, F.bindsN hb⟩
  obtain ⟨t, h1, h2⟩ := hbody f cdv A outer s H vs Q E hr h
  exact ⟨t, PSs.nox h1, h2⟩
end
section
variable {X : Cx} {k j : Nat} {x m : Str} {p pos apos : Pos} {ps : List Str} {sp : Sp} {C : Addr} {e o : Expr} {es : List Expr} {to : TE} {t : TA}
theorem pe_dm {pl : Sem Bool} (D : DnM X.prog X.w X.K X.mg X.base k C m ps sp) (hr : Room j X.A) (hk : k ≤ j) (cl : Cls X.K C) (he : PE X o to) (ha : PA X (e :: es) t)
    (hst : starEach (e :: es) X.env = (false, eval e X.env) :: starEach es X.env := by rfl) (hpl : (backTo pos (starEach es X.env)).any (·.1) = false := by rfl)
    (ht : eval (.Call (.Attribute o m apos) (e :: es) [] pos) X.env = (do
      let ov ← eval o X.env
      standAt apos.atName
      let (f, first) ← holding [ov] (getMethod ov m pl)
      callWith pos f first (backTo pos (starEach (e :: es) X.env)) (backToKw pos (keywordEach [] X.env))) := by rfl) :
    PE X (.Call (.Attribute o m apos) (e :: es) [] pos) (tMeth C m sp [] E0 to t) := by
  obtain ⟨f, fd, F, hm, hb⟩ := D.ex
  exact pe_meth (pl := pl) he cl hm F (hr.mono hk) hb .nil pass0 ha hst hpl ht
theorem pe_di (D : DnI X.prog X.w X.K X.mg X.base k C ps sp) (hr : Room j X.A) (hk : k + 1 ≤ j) (hg : Gl X x) (hm : X.mg x = some (.ref C)) (ha : PA X (e :: es) t)
    (hdb : (x == ("__debug__" : Str)) = false := by decide) (he : starEach (e :: es) X.env = (false, eval e X.env) :: starEach es X.env := by rfl) (hpl : (backTo pos (starEach es X.env)).any (·.1) = false := by rfl) :
    PE X (.Call (.Name x p) (e :: es) [] pos) (tMake C sp [] E0 t) := by
  obtain ⟨f, fd, F, M, hb⟩ := D.ex
  exact pe_make M F (hr.mono hk) hg hm hb .nil pass0 ha (hdb := hdb) (he := he) (hpl := hpl)
theorem pe_di0 (D : DnI X.prog X.w X.K X.mg X.base k C ps sp) (hr : Room j X.A) (hk : k + 1 ≤ j) (hg : Gl X x) (hm : X.mg x = some (.ref C))
    (hdb : (x == ("__debug__" : Str)) = false := by decide) : PE X (.Call (.Name x p) [] [] pos) (tMake C sp [] E0 tNil) := by
  obtain ⟨f, fd, F, M, hb⟩ := D.ex
  exact pe_make0 M F (hr.mono hk) hg hm hb .nil pass0 (hdb := hdb)
end
/-! ### fields -/
theorem putF_len (f : Str) (v : V) : ∀ fs : List (Str × V), (putF f v fs).length ≤ fs.length + 1
  | [] => Nat.le_refl _
  | (g, x) :: r => by
    unfold putF
    split
    · exact Nat.le_succ _
    · have := putF_len f v r
      simp only [List.length_cons]
      omega
theorem putF_same {f : Str} {v x : V} : ∀ {fs : List (Str × V)}, fs.lookup f = some x → (putF f v fs).length = fs.length
  | [], h => by cases h
  | (g, y) :: r, h => by
    unfold putF
    by_cases e : g = f
    · rw [if_pos e]; rfl
    · rw [if_neg e]
      have hb : (f == g) = false := by
        rw [beq_eq_false_iff_ne]
        exact fun z => e z.symm
      rw [List.lookup_cons, hb] at h
      rw [List.length_cons, List.length_cons, putF_same h]
section
variable {K : PySem.W.Frag} {σ : L2.St} {H : Hp} {ta tb te : TE} {v : V} {D : Ends} {tu tz : TS}
theorem ev_fld {a C dx : Addr} {fs : List (Str × V)} {f : Str} (h : Ev te σ H (.ref a)) (ho : H a = some (.ins C dx fs)) (cl : Cls K C) (na : NoAttr K C f) (hl : fs.lookup f = some v) : Ev (tFld K te f) σ H v := fun H1 e Q q =>
  h H1 e _ fun H2 e2 => ⟨a, C, dx, fs, v, rfl, (e.trans e2) a _ ho, cl, na, hl, q H2 e2⟩
theorem s_fld {a C dx : Addr} {fs : List (Str × V)} {f : Str} (h : Ev te σ H v) (ho : Ev ta σ H (.ref a)) (hH : H a = some (.ins C dx fs)) (cl : Cls K C) (na : NoAttr K C f) (hl : fs.length < 1000) (k : ∀ H1, Ex H H1 → D.nx σ (upd H1 a (.ins C dx (putF f v fs)))) : sFld K ta te f D σ H :=
  h H (Ex.refl H) _ fun H1 e1 => ho H1 e1 _ fun H2 e2 => ⟨a, C, dx, fs, rfl, (e1.trans e2) a _ hH, cl, na, hl, k H2 (e1.trans e2)⟩
theorem q_fld {a C dx : Addr} {fs : List (Str × V)} {f : Str} (h : Ev te σ H v) (ho : Ev ta σ H (.ref a)) (hH : H a = some (.ins C dx fs)) (cl : Cls K C) (na : NoAttr K C f) (hl : fs.length < 1000) (k : ∀ H1, Ex H H1 → tz D σ (upd H1 a (.ins C dx (putF f v fs)))) : tSeq (sFld K ta te f) tz D σ H :=
  s_fld (D := { D with nx := tz D }) h ho hH cl na hl k
/-- a new object of any kind -/
def EvN (te : TE) (σ : L2.St) (H : Hp) (o : HO) : Prop := ∀ H1, Ex H H1 → ∀ Q : VK, (∀ p H2, H1 p = none → Ex H1 H2 → H2 p = some o → Q (.ref p) H2) → te σ H1 Q
theorem en_l {xs : List V} (h : EvL te σ H xs) : EvN te σ H (.lst xs) := h
theorem en_u {xs : List V} (h : EvU te σ H xs) : EvN te σ H (.tup xs) := h
theorem en_dT : EvN tDNewT σ H (.dT []) := fun H1 e Q q p hp => q p _ hp (Ex.new hp) upd_same
theorem s_fldN {a C dx : Addr} {fs : List (Str × V)} {f : Str} {o : HO} (h : EvN te σ H o) (ho : Ev ta σ H (.ref a)) (hH : H a = some (.ins C dx fs)) (cl : Cls K C) (na : NoAttr K C f) (hl : fs.length < 1000)
    (k : ∀ p H1, H p = none → Ex H H1 → H1 p = some o → D.nx σ (upd H1 a (.ins C dx (putF f (.ref p) fs)))) : sFld K ta te f D σ H :=
  h H (Ex.refl H) _ fun p H1 hp e1 h1 => ho H1 e1 _ fun H2 e2 => ⟨a, C, dx, fs, rfl, (e1.trans e2) a _ hH, cl, na, hl, k p H2 hp (e1.trans e2) (e2 _ _ h1)⟩
theorem q_fldN {a C dx : Addr} {fs : List (Str × V)} {f : Str} {o : HO} (h : EvN te σ H o) (ho : Ev ta σ H (.ref a)) (hH : H a = some (.ins C dx fs)) (cl : Cls K C) (na : NoAttr K C f) (hl : fs.length < 1000)
    (k : ∀ p H1, H p = none → Ex H H1 → H1 p = some o → tz D σ (upd H1 a (.ins C dx (putF f (.ref p) fs)))) : tSeq (sFld K ta te f) tz D σ H :=
  s_fldN (D := { D with nx := tz D }) h ho hH cl na hl k
theorem q_asgN {i : Nat} {o : HO} (h : EvN te σ H o) (k : ∀ p H1, H p = none → Ex H H1 → H1 p = some o → tz D (σ.set i (some (.ref p))) H1) : tSeq (tAsg te (gName i)) tz D σ H := h H (Ex.refl H) _ k
end
/-! ### dicts whose keys are pairs -/
abbrev kPair (r : Nat × Nat) : List Key := [Sum.inl (r.1 : Int), Sum.inr (S [r.2])]
abbrev rowV (r : Nat × Nat) : List V := [.int (r.1 : Int), .str (S [r.2])]
theorem kPair_V (r : Nat × Nat) : (kPair r).map kV = rowV r := rfl
theorem kPair_inj {r q : Nat × Nat} (h : kPair r = kPair q) : r = q := by
  injection h with h1 h2
  injection h1 with h1
  injection h2 with h2 _
  injection h2 with h2
  have h3 := S_inj h2
  have e1 : r.1 = q.1 := by omega
  have e2 : r.2 = q.2 := by simpa using h3
  exact Prod.ext e1 e2
def numKV : Nat → List (Nat × Nat) → List (List Key × V)
  | _, [] => []
  | n, r :: rs => (kPair r, .int (n : Int)) :: numKV (n + 1) rs
theorem numKV_at : ∀ (n : Nat) (rs : List (Nat × Nat)) (x : Nat × Nat), valV (numKV n rs) (kPair x) = (ixR n rs x).map fun (k : Nat) => V.int (k : Int)
  | _, [], _ => rfl
  | n, r :: rs, x => by
    show valV ((kPair r, V.int (n : Int)) :: numKV (n + 1) rs) (kPair x) = (ixR n (r :: rs) x).map _
    unfold ixR
    by_cases e : r = x
    · rw [if_pos e, valV_pos (congrArg kPair e)]; rfl
    · rw [if_neg e, valV_neg (fun z => e (kPair_inj z)), numKV_at (n + 1) rs x]
theorem numKV_snoc : ∀ (n : Nat) (rs : List (Nat × Nat)) (r : Nat × Nat), numKV n (rs ++ [r]) = numKV n rs ++ [(kPair r, .int ((n + rs.length : Nat) : Int))]
  | n, [], r => rfl
  | n, q :: rs, r => by
    show (kPair q, _) :: numKV (n + 1) (rs ++ [r]) = _
    rw [numKV_snoc (n + 1) rs r, List.length_cons, show n + 1 + rs.length = n + (rs.length + 1) by omega]
    rfl
theorem numKV_len : ∀ (n : Nat) (rs : List (Nat × Nat)), (numKV n rs).length = rs.length
  | _, [] => rfl
  | n, r :: rs => congrArg Nat.succ (numKV_len (n + 1) rs)
/-! ### rows as tuples -/
abbrev rV (as : List Addr) : List V := as.map V.ref
def RowsAt (H : Hp) : List Addr → List (Nat × Nat) → Prop
  | [], [] => True
  | a :: as, r :: rs => H a = some (.tup (rowV r)) ∧ RowsAt H as rs
  | _, _ => False
theorem RowsAt.ex {H H' : Hp} (e : Ex H H') : ∀ {as : List Addr} {rs : List (Nat × Nat)}, RowsAt H as rs → RowsAt H' as rs
  | [], [], _ => trivial
  | _ :: _, _ :: _, h => ⟨e _ _ h.1, h.2.ex e⟩
  | [], _ :: _, h => h.elim
  | _ :: _, [], h => h.elim
theorem RowsAt.len {H : Hp} : ∀ {as : List Addr} {rs : List (Nat × Nat)}, RowsAt H as rs → as.length = rs.length
  | [], [], _ => rfl
  | _ :: _, _ :: _, h => congrArg Nat.succ h.2.len
  | [], _ :: _, h => h.elim
  | _ :: _, [], h => h.elim
theorem RowsAt.get {H : Hp} : ∀ {as : List Addr} {rs : List (Nat × Nat)}, RowsAt H as rs → ∀ {i : Nat} {x : V}, (rV as)[i]? = some x → ∃ a r, x = .ref a ∧ rs[i]? = some r ∧ H a = some (.tup (rowV r))
  | [], [], _, i, x, h => by cases h
  | a :: as, r :: rs, h, 0, x, hx => ⟨a, r, (Option.some.inj hx).symm, rfl, h.1⟩
  | a :: as, r :: rs, h, i + 1, x, hx => h.2.get (i := i) hx
  | [], _ :: _, h, _, _, _ => h.elim
  | _ :: _, [], h, _, _, _ => h.elim
theorem RowsAt.snoc {H : Hp} {a : Addr} {r : Nat × Nat} (ha : H a = some (.tup (rowV r))) : ∀ {as : List Addr} {rs : List (Nat × Nat)}, RowsAt H as rs → RowsAt H (as ++ [a]) (rs ++ [r])
  | [], [], _ => ⟨ha, trivial⟩
  | _ :: _, _ :: _, h => ⟨h.1, h.2.snoc ha⟩
  | [], _ :: _, h => h.elim
  | _ :: _, [], h => h.elim
/-- all that stands in H stands in H', but for these three -/
def But3 (H H' : Hp) (p l d : Addr) : Prop := ∀ b o, H b = some o → b ≠ p → b ≠ l → b ≠ d → H' b = some o
theorem RowsAt.but {H H' : Hp} {p l d : Addr} (e : But3 H H' p l d) (hp : ∀ xs, H p ≠ some (.tup xs)) (hl : ∀ xs, H l ≠ some (.tup xs)) (hd : ∀ xs, H d ≠ some (.tup xs)) : ∀ {as : List Addr} {rs : List (Nat × Nat)}, RowsAt H as rs → RowsAt H' as rs
  | [], [], _ => trivial
  | a :: _, _ :: _, h => ⟨e _ _ h.1 (fun z => hp _ (z ▸ h.1)) (fun z => hl _ (z ▸ h.1)) (fun z => hd _ (z ▸ h.1)), h.2.but e hp hl hd⟩
  | [], _ :: _, h => h.elim
  | _ :: _, [], h => h.elim
end My
namespace My
open PySem PySem.Spec PyProof.Rows L2 Evl
open SX (S S_len S_cat S_beq S_beq_eq S_inj S_tl)
/-! ### for i, c in enumerate(text); for i, (a, b) in enumerate(rows); for a, b in rows -/
section
variable {K : PySem.W.Frag} {σ : L2.St} {H : Hp} {te : TE} {D : Ends} {tu tz : TS} {g : TG}
theorem g_two {i j : Nat} {T : Addr} {x y : V} {Q : L2.St → Hp → Prop} (h : H T = some (.tup [x, y])) (q : Q ((σ.set i (some x)).set j (some y)) H) : gTup K 2 (gCons (gName i) (gCons (gName j) gNil)) (.ref T) σ H Q :=
  ⟨T, [x, y], rfl, st_of h, rfl, x, [y], rfl, y, [], rfl, rfl, q⟩
theorem g_three {i j k : Nat} {T a : Addr} {x y z : V} {Q : L2.St → Hp → Prop} (h : H T = some (.tup [x, .ref a])) (h2 : H a = some (.tup [y, z])) (q : Q (((σ.set i (some x)).set j (some y)).set k (some z)) H) :
    gTup K 2 (gCons (gName i) (gCons (gTup K 2 (gCons (gName j) (gCons (gName k) gNil))) gNil)) (.ref T) σ H Q :=
  ⟨T, [x, .ref a], rfl, st_of h, rfl, x, [.ref a], rfl, .ref a, [], rfl, a, [y, z], rfl, st_of h2, rfl, y, [z], rfl, z, [], rfl, rfl, rfl, q⟩
theorem s_forES {l : List Nat} (h : Ev te σ H (.str (S l))) (Pv : Nat → L2.St → Hp → Prop) (h0 : ∀ H1, Ex H H1 → Pv 0 σ H1)
    (hs : ∀ n c σ' H', l[n]? = some c → Pv n σ' H' → ∀ T H1, Ex H' H1 → H1 T = some (.tup [.int (n : Nat), .str (S [c])]) → g (.ref T) σ' H1 fun σ2 H2 => tu { D with nx := Pv (n + 1), ct := Pv (n + 1), bk := D.nx } σ2 H2)
    (hd : ∀ σ' H', Pv l.length σ' H' → D.nx σ' H') : tFor (iEnumS (tCons te tNil)) g tu D σ H :=
  h H (Ex.refl H) _ fun H1 e => ⟨S l, rfl, fun n m σ H => m = l.length - n ∧ n ≤ l.length ∧ Pv n σ H, ⟨l.length, by simp, Nat.zero_le _, h0 H1 e⟩, by
    rintro n m σ' H' ⟨rfl, hn, p⟩
    by_cases hlt : n < l.length
    · refine .inr ⟨by show n < (S l).cps.size; rw [← Array.length_toList]; exact hlt, Pv (n + 1), fun σ2 H2 p2 => ⟨l.length - (n + 1), by omega, rfl, hlt, p2⟩, fun y H2 hy => ?_⟩
      obtain ⟨T, c, rfl, hT, rfl, hc⟩ := hy
      rw [← Array.getElem?_toList] at hc
      exact hs n c σ' H' hc p T _ (Ex.new hT) upd_same
    · have e1 : n = l.length := by omega
      subst e1
      exact .inl ⟨by show (S l).cps.size ≤ l.length; rw [← Array.length_toList]; exact Nat.le_refl _, hd σ' H' p⟩⟩
theorem s_forET {a : Addr} {xs : List V} (h : Ev te σ H (.ref a)) (hx : SqT K H a xs) (Pv : Nat → L2.St → Hp → Prop) (h0 : ∀ H1, Ex H H1 → Pv 0 σ H1) (hl : ∀ n σ' H', Pv n σ' H' → SqT K H' a xs)
    (hs : ∀ n x σ' H', xs[n]? = some x → Pv n σ' H' → ∀ T H1, Ex H' H1 → H1 T = some (.tup [.int (n : Nat), x]) → g (.ref T) σ' H1 fun σ2 H2 => tu { D with nx := Pv (n + 1), ct := Pv (n + 1), bk := D.nx } σ2 H2)
    (hd : ∀ σ' H', Pv xs.length σ' H' → D.nx σ' H') : tFor (iEnumT K (tCons te tNil)) g tu D σ H :=
  h H (Ex.refl H) _ fun H1 e => ⟨a, xs, rfl, ex_t e hx, fun n m σ H => m = xs.length - n ∧ n ≤ xs.length ∧ Pv n σ H, ⟨xs.length, by simp, Nat.zero_le _, h0 H1 e⟩, by
    rintro n m σ' H' ⟨rfl, hn, p⟩
    by_cases hlt : n < xs.length
    · refine .inr ⟨⟨xs, xs[n], hl n σ' H' p, List.getElem?_eq_getElem hlt⟩, Pv (n + 1), fun σ2 H2 p2 => ⟨xs.length - (n + 1), by omega, rfl, hlt, p2⟩, fun y H2 hy => ?_⟩
      obtain ⟨T, x, rfl, hT, rfl, hc⟩ := hy
      exact hs n x σ' H' (hc xs (hl n σ' H' p)) p T _ (Ex.new hT) upd_same
    · have e1 : n = xs.length := by omega
      subst e1
      exact .inl ⟨⟨xs, hl _ σ' H' p, Nat.le_refl _⟩, hd σ' H' p⟩⟩
theorem s_dputT {tv td ty : TE} {d b : Addr} {kvs : List (List Key × V)} {k : List Key} {v : V} (hv : Ev tv σ H v) (ho : Ev td σ H (.ref d)) (hi : Ev ty σ H (.ref b)) (hd : H d = some (.dT kvs)) (hb : H b = some (.tup (k.map kV))) (hl : kvs.length < sizeLine)
    (kk : ∀ H1, Ex H H1 → D.nx σ (upd H1 d (.dT (putK kvs k v)))) : sDPut td ty tv D σ H :=
  hv H (Ex.refl H) _ fun H1 e1 => ho H1 e1 _ fun H2 e2 => hi H2 (e1.trans e2) _ fun H3 e3 => ⟨d, _, rfl, DPut.t (((e1.trans e2).trans e3) _ _ hd) (((e1.trans e2).trans e3) _ _ hb) hl, kk H3 ((e1.trans e2).trans e3)⟩
theorem q_dputT {tv td ty : TE} {d b : Addr} {kvs : List (List Key × V)} {k : List Key} {v : V} (hv : Ev tv σ H v) (ho : Ev td σ H (.ref d)) (hi : Ev ty σ H (.ref b)) (hd : H d = some (.dT kvs)) (hb : H b = some (.tup (k.map kV))) (hl : kvs.length < sizeLine)
    (kk : ∀ H1, Ex H H1 → tz D σ (upd H1 d (.dT (putK kvs k v)))) : tSeq (sDPut td ty tv) tz D σ H := s_dputT (D := { D with nx := tz D }) hv ho hi hd hb hl kk
/-- d[a, b] = v, the pair a new tuple -/
theorem s_dputU {tv td ty : TE} {d : Addr} {kvs : List (List Key × V)} {k : List Key} {v : V} (hv : Ev tv σ H v) (ho : Ev td σ H (.ref d)) (hi : EvU ty σ H (k.map kV)) (hd : H d = some (.dT kvs)) (hl : kvs.length < sizeLine)
    (kk : ∀ H1, Ex H H1 → D.nx σ (upd H1 d (.dT (putK kvs k v)))) : sDPut td ty tv D σ H :=
  hv H (Ex.refl H) _ fun H1 e1 => ho H1 e1 _ fun H2 e2 => hi H2 (e1.trans e2) _ fun b H3 hb0 e3 hb => ⟨d, _, rfl, DPut.t (((e1.trans e2).trans e3) _ _ hd) hb hl, kk H3 ((e1.trans e2).trans e3)⟩
/-- (a, b) in d -/
theorem ev_dinU {ta tb : TE} {d : Addr} {kvs : List (List Key × V)} {k : List Key} (ha : EvU ta σ H (k.map kV)) (hb : Ev tb σ H (.ref d)) (hd : H d = some (.dT kvs)) : Ev (tDIn ta tb) σ H (.bl (valV kvs k).isSome) := fun H1 e Q q =>
  ha H1 e _ fun b H2 hb0 e2 h2 => hb H2 (e.trans e2) _ fun H3 e3 => ⟨d, _, rfl, DGet.t (((e.trans e2).trans e3) _ _ hd) (e3 _ _ h2), q H3 (e2.trans e3)⟩
theorem put_lt1 (f : Str) (v : V) : (putF f v []).length < 1000 := by
  have := putF_len f v []
  simp only [List.length_nil] at this
  omega
theorem put_lt2 (f g : Str) (v u : V) : (putF f v (putF g u [])).length < 1000 := by
  have := putF_len f v (putF g u [])
  have := putF_len g u []
  simp only [List.length_nil] at this
  omega
theorem s_retMake {C : Addr} {sp : Sp} {E : XK} {t : TA} {vs : List V} (h : EvA t σ H vs) (k : ∀ H1, Ex H H1 → ∀ x dx, H1 x = none → H1 dx = none → dx ≠ x → sp (.ref x :: (vs ++ [])) (upd (upd H1 dx (.own x)) x (.ins C dx [])) (fun v H2 => v = .non ∧ D.rt (.ref x) H2) E) : tRet (tMake C sp [] E t) D σ H :=
  h H (Ex.refl H) _ fun H1 e1 => k H1 e1
end
end My

set_option Elab.async false
set_option linter.all false
set_option maxRecDepth 100000
set_option maxHeartbeats 4000000
namespace My
open PySem PySem.Spec PyProof.Rows L2 Evl
open SX (S S_len S_cat S_beq S_beq_eq S_inj S_tl)
def top (i : Nat) : Stmt := PySem.Challenge.pw_unpressed_k14_whole_within_longer_texts.main.body.getD i (.Pass ⟨0, 0, 0, 0⟩)

abbrev LETS : Str := "0123456789abcdefghijklmnopqrstuvwxyz"
def L36c : List Nat := LETS.cps.toList
theorem LETS_S : LETS = S L36c := (S_tl LETS).symm
/-- what the program takes from its modules -/
structure TC (K : PySem.W.Frag) (mg : Str → Option Value) (CG CC : Addr) : Prop extends TT mg where
  gLETTERS : ∃ u, mg "LETTERS" = some u ∧ RelV (.str LETS) u
  gGREATEST_SIZE : ∃ u, mg "GREATEST_SIZE" = some u ∧ RelV (.int 6) u
  growth : Cls K CG
  nGr : NoAttr K CG "rows"
  nGa : NoAttr K CG "at"
  nGn : NoAttr K CG "_numbers"
  mGrowth : mg "Growth" = some (.ref CG)
  cut : Cls K CC
  nCa : NoAttr K CC "alphabet"
  nCr : NoAttr K CC "rows"
  nCt : NoAttr K CC "tail"
  nCp : NoAttr K CC "pieces"
  nCm : NoAttr K CC "many"
  nCx : NoAttr K CC "text"
  nCs : NoAttr K CC "starts"
  mCut : mg "Cut" = some (.ref CC)
def AbcOk (l : List Nat) : Prop := 1 ≤ l.length ∧ l.length ≤ 6 ∧ (∀ c ∈ l, c ∈ L36c) ∧ l.Pairwise (· < ·)
theorem S_cps (l : List Nat) : (S l).cps.toList = l := rfl
theorem S_get (l : List Nat) (i : Nat) : (S l).cps[i]? = l[i]? := by
  rw [← Array.getElem?_toList]
theorem S_size (l : List Nat) : (S l).cps.size = l.length := by
  rw [← Array.length_toList]
section
variable {K : PySem.W.Frag} {σ : L2.St} {H : Hp} {ta tb te : TE} {v : V} {D : Ends} {tu tz : TS}
def rInS : R2 := fun x y H Q => ∃ i j, x = .str i ∧ y = .str j ∧ Q (.bl (!(Builtin.Str.occurrences j i 0 j.length 1).isEmpty)) H
def rNiS : R2 := fun x y H Q => ∃ i j, x = .str i ∧ y = .str j ∧ Q (.bl (!(!(Builtin.Str.occurrences j i 0 j.length 1).isEmpty))) H
theorem rv_inS {l : List Nat} {c : Nat} : RV rInS (.str (S [c])) (.str (S l)) H (.bl (decide (c ∈ l))) := fun H1 _ Q q => ⟨S [c], S l, rfl, rfl, by rw [SX.in_one]; exact q H1 (Ex.refl H1)⟩
theorem rv_niS {l : List Nat} {c : Nat} : RV rNiS (.str (S [c])) (.str (S l)) H (.bl (!decide (c ∈ l))) := fun H1 _ Q q => ⟨S [c], S l, rfl, rfl, by rw [SX.in_one]; exact q H1 (Ex.refl H1)⟩
def rLeS : R2 := fun x y H Q => ∃ i j, x = .str i ∧ y = .str j ∧ Q (.bl (!decide (j.cps.toList < i.cps.toList))) H
theorem rv_leS {a b : List Nat} : RV rLeS (.str (S a)) (.str (S b)) H (.bl (!decide (b < a))) := fun H1 _ Q q => ⟨S a, S b, rfl, rfl, q H1 (Ex.refl H1)⟩
end
section
variable {P : Program} {w : World} {K : PySem.W.Frag} {mg : Str → Option Value} {base : Heap}

variable {CG CC : Addr}
abbrev s_is_whole : Stmt := top 17
abbrev N_is_whole : List Str := ["value"]
theorem sc_is_whole : FnScope N_is_whole ["value"] (defScope s_is_whole) := ⟨rfl, rfl, rfl, by decide +kernel, rfl, by decide +kernel, by decide +kernel⟩
theorem ok_is_whole (T : TT mg) (F : At K mg "is_whole" s_is_whole) : Dn P w K mg base 1 "is_whole" s_is_whole ["value"] spWhole := by
  refine dn_ok F sc_is_whole (fun _ _ _ _ _ _ us hl => match us, hl with | [_], _ => rfl) (fun vs H Q E h => ?_) (fun f cdv A outer s H vs Q E hr h => ?_)
  · obtain ⟨m, rfl, _⟩ := h; rfl
  · obtain ⟨m, rfl, q⟩ := h
    refine ⟨_, (pss_one (ps_ret (pe_and (pe_callB call_isi (by rfl) T.isinstance (by decide +kernel) (pa_cons (pv 0) (pa_cons (pe_tyn "int" rfl T.int_ (by decide +kernel)) pa_nil))) (pe_one (pe_not (pe_callB call_isi (by rfl) T.isinstance (by decide +kernel) (pa_cons (pv 0) (pa_cons (pe_tyn "bool" rfl T.bool_ (by decide +kernel)) pa_nil)))))))), ?_⟩
    exact s_ret (v := .bl (true && !false)) (ev_andV (ev_isi (ev_var rfl) ev_c (ClsV.ty "int") (fun _ _ => .base (.int m)) kit_int_int) fun _ => ev_notV (ev_isi (ev_var rfl) ev_c (ClsV.ty "bool") (fun _ _ => .base (.int m)) kit_int_bool)) fun H1 e => q H1 e
abbrev s_is_letter : Stmt := top 18
abbrev N_is_letter : List Str := ["alphabet", "value"]
theorem sc_is_letter : FnScope N_is_letter ["alphabet", "value"] (defScope s_is_letter) := ⟨rfl, rfl, rfl, by decide +kernel, rfl, by decide +kernel, by decide +kernel⟩
def spLetter : Sp := fun vs H Q _ => ∃ (abc : List Nat) (c : Nat), vs = [.str (S abc), .str (S [c])] ∧ c ∈ abc ∧ RetV (.bl true) H Q
theorem sv_letter {abc : List Nat} {c : Nat} {H : Hp} (h : c ∈ abc) : SpV spLetter [.str (S abc), .str (S [c])] H (.bl true) := fun _ _ _ q _ => ⟨abc, c, rfl, h, q⟩
theorem ok_is_letter (T : TC K mg CG CC) (F : At K mg "is_letter" s_is_letter) : Dn P w K mg base 1 "is_letter" s_is_letter ["alphabet", "value"] spLetter := by
  refine dn_ok F sc_is_letter (fun _ _ _ _ _ _ us hl => match us, hl with | [_, _], _ => rfl) (fun vs H Q E h => ?_) (fun f cdv A outer t H vs Q E hr h => ?_)
  · obtain ⟨abc, c, rfl, _⟩ := h; rfl
  · obtain ⟨abc, c, rfl, hc, q⟩ := h
    refine ⟨_, (pss_one (ps_ret (pe_and (pe_callB call_isi (by rfl) T.isinstance (by decide +kernel) (pa_cons (pv 1) (pa_cons (pe_tyn "str" rfl T.str_ (by decide +kernel)) pa_nil))) (pe_and (pe_cmpR op_eq (pe_callB call_len_str (by rfl) T.len boot_len (pa_cons (pv 1) pa_nil)) pe_int (nomark _)) (pe_one (pe_cmpR op_in_str (pv 1) (pv 0) (by rfl))))))), ?_⟩
    refine s_ret (v := .bl (true && (true && true))) (ev_andV (ev_isi (ev_var rfl) ev_c (ClsV.ty "str") (fun _ _ => .base (.str _)) kit_str_str) fun _ => ev_andV (ev_is (ev_op (ev_lenStr (ev_var rfl) (by rw [S_len]; show 1 ≤ 16777216; decide)) ev_c (rv_eq rfl)) (by rw [S_len]; rfl)) fun _ => ev_is (ev_op (r := rInS) (ev_var rfl) (ev_var rfl) rv_inS) (by rw [decide_eq_true hc])) fun H1 e1 => q H1 e1
abbrev s_is_alphabet : Stmt := top 19
abbrev N_is_alphabet : List Str := ["alphabet", "previous", "letter"]
theorem sc_is_alphabet : FnScope N_is_alphabet ["alphabet"] (defScope s_is_alphabet) := ⟨rfl, rfl, rfl, by decide +kernel, rfl, by decide +kernel, by decide +kernel⟩
def spIsA : Sp := fun vs H Q _ => ∃ abc : List Nat, vs = [.str (S abc)] ∧ AbcOk abc ∧ RetV (.bl true) H Q
theorem sv_isA {abc : List Nat} {H : Hp} (h : AbcOk abc) : SpV spIsA [.str (S abc)] H (.bl true) := fun _ _ _ q _ => ⟨abc, rfl, h, q⟩
theorem ok_is_alphabet (T : TC K mg CG CC) (F : At K mg "is_alphabet" s_is_alphabet) : Dn P w K mg base 1 "is_alphabet" s_is_alphabet ["alphabet"] spIsA := by
  refine dn_ok F sc_is_alphabet (fun _ _ _ _ _ _ us hl => match us, hl with | [_], _ => rfl) (fun vs H Q E h => ?_) (fun f cdv A outer t H vs Q E hr h => ?_)
  · obtain ⟨abc, rfl, _⟩ := h; rfl
  · obtain ⟨abc, rfl, ⟨a1, a6, aL, ap⟩, q⟩ := h
    refine ⟨_, (pss_cons (ps_if (pt_not (pt_chain op_le op_le pe_int (pe_callB call_len_str (by rfl) T.len boot_len (pa_cons (pv 0) pa_nil)) (C8.pe_gc rfl T.gGREATEST_SIZE))) (pss_one (ps_ret pe_bl)) pss_nil)
      (pss_cons (ps_set (i := 1) sc_is_alphabet.nd rfl (Or.inl rfl) pe_str)
      (pss_cons (ps_for PassesOwn.never rfl (pi_str (pv 0)) (pg_name (i := 2) sc_is_alphabet.nd rfl (Or.inl rfl))
        (pss_cons (ps_if (PW.pt (pw_or (pt_cmpR op_notIn_str (pv 2) (C8.pe_gc rfl T.gLETTERS) (by rfl)) (pw_or1 (pt_cmpR op_le_str (pv 2) (pv 1) (nomark _))))) (pss_one (ps_ret pe_bl)) pss_nil)
          (pss_one (ps_set (i := 1) sc_is_alphabet.nd rfl (Or.inl rfl) (pv 2)))))
      (pss_one (ps_ret pe_bl))))), ?_⟩
    have hl : Ev (tCB (fun xs H Q => ∃ z : Str, xs = [.str z] ∧ z.length ≤ sizeLine ∧ Q (.int z.length) H) (tCons (tVar 0) tNil)) (start N_is_alphabet [V.str (S abc)]) H (.int ((abc.length : Nat) : Int)) := ev_is (ev_lenStr (ev_var rfl) (by rw [S_len]; show abc.length ≤ 16777216; omega)) (by rw [S_len])
    refine q_when (b := !(decide ((1 : Int) ≤ ((abc.length : Nat) : Int)) && decide (((abc.length : Nat) : Int) ≤ 6))) (et_not (et_chain ev_c hl ev_c rv_I0 rv_I0)) (fun hb H1 e1 => ?_) (fun _ H1 e1 => ?_)
    · rw [decide_eq_true (by omega), decide_eq_true (by omega)] at hb
      exact absurd hb (by decide)
    refine q_asg (v := .str (S [])) (ev_is ev_c rfl) fun H2 e2 => ?_
    refine q_forS (ev_var rfl) (fun i σ' H' => ∃ (pr : List Nat) (v : Option V), σ' = [some (.str (S abc)), some (.str (S pr)), v] ∧ Ex H H' ∧ (pr = [] ∨ ∃ a, pr = [a] ∧ 1 ≤ i ∧ abc[i - 1]? = some a))
      (fun H3 e3 => ⟨[], none, rfl, (e1.trans e2).trans e3, Or.inl rfl⟩) ?_ ?_
    · rintro i c σ' H' hc ⟨pr, v, rfl, e, hpr⟩
      rw [S_get] at hc
      have hcm := aL c (List.mem_of_getElem? hc)
      have hlt : pr < [c] := by
        rcases hpr with rfl | ⟨a, rfl, hi, ha⟩
        · exact List.nil_lt_cons c []
        · have hi1 := (List.getElem?_eq_some_iff.mp hc)
          have hi2 := (List.getElem?_eq_some_iff.mp ha)
          obtain ⟨h1, h2⟩ := hi1
          obtain ⟨h3, h4⟩ := hi2
          have h5 := List.pairwise_iff_getElem.mp ap (i - 1) i h3 h1 (by omega)
          rw [h2, h4] at h5
          exact List.cons_lt_cons_iff.mpr (Or.inl h5)
      refine q_when (b := false || false) (et_or (et_test (ev_is (ev_op (r := rNiS) (ev_var rfl) (ev_is ev_c (congrArg V.str LETS_S)) rv_niS) (by rw [decide_eq_true hcm]; rfl))) fun _ => et_test (ev_is (ev_op (r := rLeS) (ev_var rfl) (ev_var rfl) rv_leS) (by rw [decide_eq_true hlt]; rfl))) (fun hb => absurd hb (by decide)) fun _ H3 e3 => ?_
      exact s_asg (ev_var rfl) fun H4 e4 => ⟨[c], _, rfl, (e.trans e3).trans e4, Or.inr ⟨c, rfl, by omega, by rw [Nat.add_sub_cancel]; exact hc⟩⟩
    · rintro σ' H' ⟨pr, v, rfl, e, _⟩
      exact s_ret ev_c fun H4 e4 => q H4 (e.trans e4)
abbrev s_check_alphabet : Stmt := top 20
abbrev N_check_alphabet : List Str := ["alphabet"]
theorem sc_check_alphabet : FnScope N_check_alphabet ["alphabet"] (defScope s_check_alphabet) := ⟨rfl, rfl, rfl, by decide +kernel, rfl, by decide +kernel, by decide +kernel⟩
def spChA : Sp := fun vs H Q _ => ∃ abc : List Nat, vs = [.str (S abc)] ∧ AbcOk abc ∧ RetV .non H Q
theorem sv_chA {abc : List Nat} {H : Hp} (h : AbcOk abc) : SpV spChA [.str (S abc)] H .non := fun _ _ _ q _ => ⟨abc, rfl, h, q⟩
theorem ok_check_alphabet (D_is_alphabet : Dn P w K mg base 1 "is_alphabet" s_is_alphabet ["alphabet"] spIsA) (F : At K mg "check_alphabet" s_check_alphabet) : Dn P w K mg base 2 "check_alphabet" s_check_alphabet ["alphabet"] spChA := by
  refine dn_ok F sc_check_alphabet (fun _ _ _ _ _ _ us hl => match us, hl with | [_], _ => rfl) (fun vs H Q E h => ?_) (fun f cdv A outer t H vs Q E hr h => ?_)
  · obtain ⟨abc, rfl, _⟩ := h; rfl
  · obtain ⟨abc, rfl, ha, q⟩ := h
    refine ⟨_, (pss_one (ps_if (pt_not (pt_val (pe_dn D_is_alphabet hr (by decide) rfl (pa_cons (pv 0) pa_nil)))) (pss_one ps_never) pss_nil)), ?_⟩
    exact s_when (b := !true) (et_not (et_B (ev_call (ea_cons (ev_var rfl) ea_nil) (sv_isA ha)))) (fun hb => absurd hb (by decide)) fun _ H1 e1 => q H1 e1
abbrev s_check_text : Stmt := top 21
abbrev N_check_text : List Str := ["alphabet", "text", "index", "letter"]
theorem sc_check_text : FnScope N_check_text ["alphabet", "text"] (defScope s_check_text) := ⟨rfl, rfl, rfl, by decide +kernel, rfl, by decide +kernel, by decide +kernel⟩
def spChT : Sp := fun vs H Q _ => ∃ abc text : List Nat, vs = [.str (S abc), .str (S text)] ∧ (∀ c ∈ text, c ∈ abc) ∧ RetV .non H Q
theorem sv_chT {abc text : List Nat} {H : Hp} (h : ∀ c ∈ text, c ∈ abc) : SpV spChT [.str (S abc), .str (S text)] H .non := fun _ _ _ q _ => ⟨abc, text, rfl, h, q⟩
theorem ok_check_text (T : TC K mg CG CC) (F : At K mg "check_text" s_check_text) : Dn P w K mg base 1 "check_text" s_check_text ["alphabet", "text"] spChT := by
  refine dn_ok F sc_check_text (fun _ _ _ _ _ _ us hl => match us, hl with | [_, _], _ => rfl) (fun vs H Q E h => ?_) (fun f cdv A outer t H vs Q E hr h => ?_)
  · obtain ⟨abc, text, rfl, _⟩ := h; rfl
  · obtain ⟨abc, text, rfl, ha, q⟩ := h
    refine ⟨_, (pss_one (ps_for PassesOwn.never rfl (pi_enumS (by rfl) T.enumerate (pa_cons (pv 1) pa_nil)) (pg_tup rfl (pgs_cons (pg_name (i := 2) sc_check_text.nd rfl (Or.inl rfl)) (pgs_cons (pg_name (i := 3) sc_check_text.nd rfl (Or.inl rfl)) pgs_nil)))
        (pss_one (ps_if (pt_cmpR op_notIn_str (pv 3) (pv 0) (by rfl)) (pss_one ps_never) pss_nil)))), ?_⟩
    refine s_forES (ev_var rfl) (fun i σ' H' => ∃ x y : Option V, σ' = [some (.str (S abc)), some (.str (S text)), x, y] ∧ Ex H H') (fun H1 e1 => ⟨none, none, rfl, e1⟩) ?_ ?_
    · rintro i c σ' H' hc ⟨x, y, rfl, e⟩ T' H2 e2 hT
      refine g_two hT ?_
      have hcm := ha c (List.mem_of_getElem? hc)
      exact s_when (b := false) (et_test (ev_is (ev_op (r := rNiS) (ev_var rfl) (ev_var rfl) rv_niS) (by rw [decide_eq_true hcm]; rfl))) (fun hb => absurd hb (by decide)) fun _ H3 e3 => ⟨_, _, rfl, (e.trans e2).trans e3⟩
    · rintro σ' H' ⟨x, y, rfl, e⟩
      exact q H' e
end
end My

set_option Elab.async false
set_option linter.all false
set_option maxRecDepth 100000
set_option maxHeartbeats 4000000
namespace My
open PySem PySem.Spec PyProof.Rows L2 Evl
open SX (S S_len S_cat S_beq S_beq_eq S_inj S_tl)

theorem nk1 : ¬ (("rows" : Str) = "at") := by decide +kernel
theorem nk2 : ¬ (("rows" : Str) = "_numbers") := by decide +kernel
theorem nk3 : ¬ (("at" : Str) = "_numbers") := by decide +kernel
theorem nk4 : ¬ (("at" : Str) = "rows") := by decide +kernel
theorem nk5 : ¬ (("_numbers" : Str) = "rows") := by decide +kernel
theorem nk6 : ¬ (("_numbers" : Str) = "at") := by decide +kernel
/-- no field has the name of a method -/
def NoM (fs : List (Str × V)) : Prop := fs.lookup ("read" : Str) = none ∧ fs.lookup ("_read_letter" : Str) = none
theorem NoM.put {fs : List (Str × V)} (h : NoM fs) (f : Str) (v : V) (h1 : ¬ f = "read" := by decide +kernel) (h2 : ¬ f = "_read_letter" := by decide +kernel) : NoM (putF f v fs) := by
  constructor
  · rw [lookup_putF, if_neg (fun z => h1 z.symm)]; exact h.1
  · rw [lookup_putF, if_neg (fun z => h2 z.symm)]; exact h.2
/-- a growth stands at p, its list of rows at l, its dict at d -/
structure GrAt (CG : Addr) (H : Hp) (p l d : Addr) (rs : List Addr) (rows : List (Nat × Nat)) (at_ : Nat) : Prop where
  ob : ∃ dx fs, H p = some (.ins CG dx fs) ∧ fs.lookup ("rows" : Str) = some (.ref l) ∧ fs.lookup ("at" : Str) = some (.int (at_ : Int)) ∧ fs.lookup ("_numbers" : Str) = some (.ref d) ∧ NoM fs ∧ fs.length < 900
  ls : H l = some (.lst (rV rs))
  dc : H d = some (.dT (numKV 1 rows))
  rw_ : RowsAt H rs rows
theorem GrAt.npl {CG : Addr} {H : Hp} {p l d : Addr} {rs : List Addr} {rows : List (Nat × Nat)} {at_ : Nat} (G : GrAt CG H p l d rs rows at_) : p ≠ l ∧ p ≠ d ∧ l ≠ d := by
  obtain ⟨dx, fs, h, _⟩ := G.ob
  refine ⟨fun z => ?_, fun z => ?_, fun z => ?_⟩
  · rw [z, G.ls] at h; cases Option.some.inj h
  · rw [z, G.dc] at h; cases Option.some.inj h
  · have := G.ls; rw [z, G.dc] at this; cases Option.some.inj this
theorem GrAt.tup {CG : Addr} {H : Hp} {p l d : Addr} {rs : List Addr} {rows : List (Nat × Nat)} {at_ : Nat} (G : GrAt CG H p l d rs rows at_) {r : Addr} {xs : List V} (h : H r = some (.tup xs)) : r ≠ p ∧ r ≠ l ∧ r ≠ d := by
  obtain ⟨dx, fs, h1, _⟩ := G.ob
  refine ⟨fun z => ?_, fun z => ?_, fun z => ?_⟩
  · rw [z, h1] at h; cases Option.some.inj h
  · rw [z, G.ls] at h; cases Option.some.inj h
  · rw [z, G.dc] at h; cases Option.some.inj h
theorem GrAt.ex {CG : Addr} {H H' : Hp} {p l d : Addr} {rs : List Addr} {rows : List (Nat × Nat)} {at_ : Nat} (e : Ex H H') (G : GrAt CG H p l d rs rows at_) : GrAt CG H' p l d rs rows at_ := by
  obtain ⟨dx, fs, h, r⟩ := G.ob
  exact ⟨⟨dx, fs, e _ _ h, r⟩, e _ _ G.ls, e _ _ G.dc, G.rw_.ex e⟩
theorem But3.ex {H H' H'' : Hp} {p l d : Addr} (b : But3 H H' p l d) (e : Ex H' H'') : But3 H H'' p l d := fun a o h h1 h2 h3 => e _ _ (b a o h h1 h2 h3)
theorem But3.of {H H' : Hp} {p l d : Addr} (e : Ex H H') : But3 H H' p l d := fun a o h _ _ _ => e _ _ h
theorem But3.trans {H H' H'' : Hp} {p l d : Addr} (b : But3 H H' p l d) (c : But3 H' H'' p l d) : But3 H H'' p l d := fun a o h h1 h2 h3 => c _ _ (b a o h h1 h2 h3) h1 h2 h3
theorem upd_Ne {H : Hp} {a b : Addr} {o u : HO} (h : H b = some u) (n : b ≠ a) : (upd H a o) b = some u := by rw [upd_ne n]; exact h
section
variable {P : Program} {w : World} {K : PySem.W.Frag} {mg : Str → Option Value} {base : Heap}

variable {CG CC : Addr}
abbrev s_Growth__init : Stmt := inClass (top 23) 0
abbrev N_Growth__init : List Str := ["self"]
theorem sc_Growth__init : FnScope N_Growth__init ["self"] (defScope s_Growth__init) := ⟨rfl, rfl, rfl, by decide +kernel, rfl, by decide +kernel, by decide +kernel⟩
def spGI (CG : Addr) : Sp := fun vs H Q _ => ∃ p dx : Addr, vs = [.ref p] ∧ H p = some (.ins CG dx []) ∧ ∀ (l d : Addr) (H' : Hp), H l = none → H d = none → GrAt CG H' p l d [] [] 0 → (∀ b o, H b = some o → b ≠ p → H' b = some o) → Q .non H'
theorem ok_Growth_init (T : TC K mg CG CC) (F : AtI K CG "Growth.__init__" s_Growth__init) : DnI P w K mg base 1 CG ["self"] (spGI CG) := by
  refine dni_ok F sc_Growth__init (fun _ _ _ _ _ _ us hl => match us, hl with | [_], _ => rfl) (fun vs H Q E h => ?_) (fun f cdv A outer t H vs Q E hr h => ?_)
  · obtain ⟨p, dx, rfl, _⟩ := h; rfl
  · obtain ⟨p, dx, rfl, hp, q⟩ := h
    refine ⟨_, (pss_cons (ps_fld (pv 0) (pe_lst pa_nil) rfl)
      (pss_cons (ps_fld (pv 0) pe_int rfl)
      (pss_one (ps_fld (pv 0) pe_dnewT rfl)))), ?_⟩
    refine q_fldN (en_l (el_lst ea_nil (by decide))) (ev_var rfl) hp T.growth T.nGr (by decide) fun l H1 nl e1 h1 => ?_
    have nlp : l ≠ p := fun z => by rw [z, hp] at nl; cases nl
    refine q_fld ev_c (ev_var rfl) upd_same T.growth T.nGa (put_lt1 _ _) fun H2 e2 => ?_
    refine s_fldN en_dT (ev_var rfl) upd_same T.growth T.nGn (put_lt2 _ _ _ _) fun d H3 nd e3 h3 => ?_
    have h2p : (upd H2 p (HO.ins CG dx (putF "at" (V.int 0) (putF "rows" (V.ref l) [])))) p = some (.ins CG dx (putF "at" (V.int 0) (putF "rows" (V.ref l) []))) := upd_same
    have ndp : d ≠ p := fun z => by rw [z, h2p] at nd; cases nd
    have hl2 : H2 l = some (.lst []) := e2 _ _ (upd_Ne h1 nlp)
    have hl3 : H3 l = some (.lst []) := e3 _ _ (upd_Ne hl2 nlp)
    have keep : ∀ b o, H b = some o → b ≠ p → (upd H3 p (HO.ins CG dx (putF "_numbers" (V.ref d) (putF "at" (V.int 0) (putF "rows" (V.ref l) []))))) b = some o := fun b o hb hn => by
      rw [upd_ne hn]
      exact e3 _ _ (upd_Ne (e2 _ _ (upd_Ne (e1 _ _ hb) hn)) hn)
    have nd0 : H d = none := by
      cases z : H d with
      | none => rfl
      | some o =>
        have a := e2 _ _ (upd_Ne (o := HO.ins CG dx (putF "rows" (V.ref l) [])) (e1 _ _ z) ndp)
        have b2 := upd_Ne (o := HO.ins CG dx (putF "at" (V.int 0) (putF "rows" (V.ref l) []))) a ndp
        rw [b2] at nd
        cases nd
    refine q l d _ nl nd0 ⟨⟨dx, _, upd_same, ?_, ?_, ?_, ?_, ?_⟩, upd_Ne hl3 nlp, upd_Ne h3 ndp, trivial⟩ keep
    · rw [lookup_putF, if_neg nk2, lookup_putF, if_neg nk1, lookup_putF, if_pos rfl]
    · rw [lookup_putF, if_neg nk3, lookup_putF, if_pos rfl]; rfl
    · rw [lookup_putF, if_pos rfl]
    · exact NoM.put (NoM.put (NoM.put ⟨rfl, rfl⟩ _ _) _ _) _ _
    · have a := putF_len "_numbers" (V.ref d) (putF "at" (V.int 0) (putF "rows" (V.ref l) []))
      have b := putF_len "at" (V.int 0) (putF "rows" (V.ref l) [])
      have c := putF_len "rows" (V.ref l) []
      simp only [List.length_nil] at c
      omega
abbrev s_Growth_read_letter : Stmt := inClass (top 23) 4
abbrev N_Growth_read_letter : List Str := ["self", "row"]
theorem sc_Growth_read_letter : FnScope N_Growth_read_letter ["self", "row"] (defScope s_Growth_read_letter) := ⟨rfl, rfl, rfl, by decide +kernel, rfl, by decide +kernel, by decide +kernel⟩
def spRL (CG : Addr) : Sp := fun vs H Q _ => ∃ (p l d r : Addr) (rs : List Addr) (rows : List (Nat × Nat)) (at_ c : Nat), vs = [.ref p, .ref r] ∧ GrAt CG H p l d rs rows at_ ∧ H r = some (.tup (rowV (at_, c))) ∧ rows.length < 5000 ∧
  ∀ (rs' : List Addr) (H' : Hp), GrAt CG H' p l d rs' (stepC (rows, at_) c).1 (stepC (rows, at_) c).2 → But3 H H' p l d → Q .non H'
theorem ok_Growth_read_letter (T : TC K mg CG CC) (F : AtM K CG "_read_letter" "Growth._read_letter" s_Growth_read_letter) : DnM P w K mg base 1 CG "_read_letter" ["self", "row"] (spRL CG) := by
  refine dnm_ok F sc_Growth_read_letter (fun _ _ _ _ _ _ us hl => match us, hl with | [_, _], _ => rfl) (fun vs H Q E h => ?_) (fun f cdv A outer t H vs Q E hr h => ?_)
  · obtain ⟨p, l, d, r, rs, rows, at_, c, rfl, _⟩ := h; rfl
  · obtain ⟨p, l, d, r, rs, rows, at_, c, rfl, G, hrow, hlen, q⟩ := h
    refine ⟨_, (pss_cons (ps_if (pt_cmp (pc_din (hu_of hr) (pv 1) (pe_fld (pv 0) rfl))) (pss_cons (ps_fld (pv 0) (pe_dget (hu_of hr) (pe_fld (pv 0) rfl) (pv 1) (fun _ _ => rfl)) rfl)
        (pss_one ps_retN)) pss_nil)
      (pss_cons (ps_expr (pe_bm PySem.F.plainAttrs_list PySem.F.slot_list_append PySem.F.type_list_append mt_append (pe_fld (pv 0) rfl) (pa_cons (pv 1) pa_nil)))
      (pss_cons (ps_dput (hu_of hr) (pe_fld (pv 0) rfl) (pv 1) (pe_callB call_len_seq (by rfl) T.len boot_len (pa_cons (pe_fld (pv 0) rfl) pa_nil)) rfl)
      (pss_one (ps_fld (pv 0) pe_int rfl))))), ?_⟩
    obtain ⟨dx, fs, hp, fr, fa, fn, nm, fl⟩ := G.ob
    obtain ⟨npl, npd, nld⟩ := G.npl
    obtain ⟨nrp, nrl, nrd⟩ := G.tup hrow
    have fself : ∀ {H1 : Hp} {fs' : List (Str × V)} {f : Str} {v : V}, H1 p = some (.ins CG dx fs') → NoAttr K CG f → fs'.lookup f = some v → ∀ {σ : L2.St}, σ[0]? = some (some (.ref p)) → Ev (tFld K (tVar 0) f) σ H1 v := by
      intro H1 fs' f v hp' na hl' σ hs
      exact ev_fld (ev_var hs) hp' T.growth na hl'
    have hget : ∀ {H1 : Hp}, H1 d = some (.dT (numKV 1 rows)) → H1 r = some (.tup (rowV (at_, c))) → DGet H1 d (.ref r) ((ixR 1 rows (at_, c)).map fun (k : Nat) => V.int (k : Int)) := by
      intro H1 hd hr1
      rw [← numKV_at]
      exact DGet.t hd (by rw [kPair_V]; exact hr1)
    have hin : Ev (tDIn (tVar 1) (tFld K (tVar 0) "_numbers")) (start N_Growth_read_letter [V.ref p, V.ref r]) H (.bl (ixR 1 rows (at_, c)).isSome) := fun H1 e1 Q1 q1 =>
      (ev_var (i := 1) (v := .ref r) rfl : Ev (tVar 1) (start N_Growth_read_letter [V.ref p, V.ref r]) H (.ref r)) H1 e1 _ fun H2 e2 => (fself (e1.trans e2 _ _ hp) T.nGn fn rfl) H2 (Ex.refl H2) _ fun H3 e3 =>
        ⟨d, _, rfl, hget (e3 _ _ (e2 _ _ (e1 _ _ G.dc))) (e3 _ _ (e2 _ _ (e1 _ _ hrow))), by rw [Option.isSome_map]; exact q1 H3 (e2.trans e3)⟩
    refine q_when (et_B hin) (fun hb H1 e1 => ?_) (fun hb H1 e1 => ?_)
    · cases hk : ixR 1 rows (at_, c) with
      | none => rw [hk] at hb; cases hb
      | some k =>
        have hst : stepC (rows, at_) c = (rows, k) := by unfold stepC; simp only [hk]
        rw [hst] at q
        have hgv : Ev (tDGet (tFld K (tVar 0) "_numbers") (tVar 1)) (start N_Growth_read_letter [V.ref p, V.ref r]) H1 (.int (k : Int)) := fun H2 e2 Q1 q1 =>
          (fself (e1.trans e2 _ _ hp) T.nGn fn rfl) H2 (Ex.refl H2) _ fun H3 e3 => (ev_var (i := 1) (v := .ref r) rfl : Ev (tVar 1) (start N_Growth_read_letter [V.ref p, V.ref r]) H3 (.ref r)) H3 (Ex.refl H3) _ fun H4 e4 =>
            ⟨d, _, rfl, by
              have := hget (e4 _ _ (e3 _ _ (e2 _ _ (e1 _ _ G.dc)))) (e4 _ _ (e3 _ _ (e2 _ _ (e1 _ _ hrow))))
              rw [hk] at this
              exact this, q1 H4 (e3.trans e4)⟩
        refine q_fld hgv (ev_var rfl) (e1 _ _ hp) T.growth T.nGa (by omega) fun H2 e2 => ?_
        have e12 := e1.trans e2
        refine q rs _ ⟨⟨dx, _, upd_same, ?_, ?_, ?_, nm.put _ _, ?_⟩, upd_Ne (e12 _ _ G.ls) npl.symm, upd_Ne (e12 _ _ G.dc) npd.symm, ?_⟩ ?_
        · rw [lookup_putF, if_neg nk1]; exact fr
        · rw [lookup_putF, if_pos rfl]
        · rw [lookup_putF, if_neg nk6]; exact fn
        · rw [putF_same fa]; exact fl
        · refine (G.rw_.ex e12).but (p := p) (l := p) (d := p) (fun b o hb h1 _ _ => upd_Ne hb h1) (fun xs z => ?_) (fun xs z => ?_) (fun xs z => ?_) <;> (rw [e12 _ _ hp] at z; cases Option.some.inj z)
        · exact fun b o hb h1 _ _ => upd_Ne (e12 _ _ hb) h1
    · have hk : ixR 1 rows (at_, c) = none := by
        cases z : ixR 1 rows (at_, c) with
        | none => rfl
        | some k => rw [z] at hb; cases hb
      have hst : stepC (rows, at_) c = (rows ++ [(at_, c)], 0) := by unfold stepC; simp only [hk]
      rw [hst] at q
      have hlr := G.rw_.len
      refine q_app (e1 _ _ G.ls) (fself (e1 _ _ hp) T.nGr fr rfl) (ev_var rfl) (by rw [List.length_map, hlr]; omega) fun H2 e2 => ?_
      have e12 := e1.trans e2
      have hl3 : (upd H2 l (.lst (rV rs ++ [.ref r]))) l = some (.lst (rV (rs ++ [r]))) := by rw [upd_same]; simp [rV]
      have hp3 : (upd H2 l (.lst (rV rs ++ [.ref r]))) p = some (.ins CG dx fs) := upd_Ne (e12 _ _ hp) npl
      have hd3 : (upd H2 l (.lst (rV rs ++ [.ref r]))) d = some (.dT (numKV 1 rows)) := upd_Ne (e12 _ _ G.dc) nld.symm
      have hr3 : (upd H2 l (.lst (rV rs ++ [.ref r]))) r = some (.tup (rowV (at_, c))) := upd_Ne (e12 _ _ hrow) nrl
      have R3 : RowsAt (upd H2 l (.lst (rV rs ++ [.ref r]))) (rs ++ [r]) (rows ++ [(at_, c)]) := by
        refine RowsAt.snoc hr3 ?_
        refine (G.rw_.ex e12).but (p := l) (l := l) (d := l) (fun b o hb h1 _ _ => upd_Ne hb h1) (fun xs z => ?_) (fun xs z => ?_) (fun xs z => ?_) <;> (rw [e12 _ _ G.ls] at z; cases Option.some.inj z)
      have B3 : But3 H (upd H2 l (.lst (rV rs ++ [.ref r]))) p l d := fun b o hb _ h2 _ => upd_Ne (e12 _ _ hb) h2
      generalize upd H2 l (.lst (rV rs ++ [.ref r])) = H3 at hl3 hp3 hd3 hr3 R3 B3 ⊢
      have hlv : ((rV (rs ++ [r])).length : Int) = ((1 + rows.length : Nat) : Int) := by rw [List.length_map, List.length_append, hlr]; show ((rows.length + 1 : Nat) : Int) = _; omega
      have hnone : valV (numKV 1 rows) (kPair (at_, c)) = none := by rw [numKV_at, hk]; rfl
      refine q_dputT (k := kPair (at_, c)) (ev_is (ev_len (K := K) (fself hp3 T.nGr fr rfl) (sq_of hl3)) (congrArg V.int hlv)) (fself hp3 T.nGn fn rfl) (ev_var (v := .ref r) rfl) hd3 (by rw [kPair_V]; exact hr3) (by rw [numKV_len]; show rows.length < 16777216; omega) fun H6 e36 => ?_
      rw [putK_new _ hnone, ← numKV_snoc]
      refine s_fld ev_c (ev_var rfl) (upd_Ne (e36 _ _ hp3) npd) T.growth T.nGa (by omega) fun H7 e7 => ?_
      have hp6 : (upd H6 d (.dT (numKV 1 (rows ++ [(at_, c)])))) p = some (.ins CG dx fs) := upd_Ne (e36 _ _ hp3) npd
      refine q (rs ++ [r]) _ ⟨⟨dx, _, upd_same, ?_, ?_, ?_, nm.put _ _, ?_⟩, upd_Ne (e7 _ _ (upd_Ne (e36 _ _ hl3) nld)) npl.symm, upd_Ne (e7 _ _ upd_same) npd.symm, ?_⟩ ?_
      · rw [lookup_putF, if_neg nk1]; exact fr
      · rw [lookup_putF, if_pos rfl]; rfl
      · rw [lookup_putF, if_neg nk6]; exact fn
      · rw [putF_same fa]; exact fl
      · have R6 : RowsAt (upd H6 d (.dT (numKV 1 (rows ++ [(at_, c)])))) (rs ++ [r]) (rows ++ [(at_, c)]) := by
          refine (R3.ex e36).but (p := d) (l := d) (d := d) (fun b o hb h1 _ _ => upd_Ne hb h1) (fun xs z => ?_) (fun xs z => ?_) (fun xs z => ?_) <;> (rw [e36 _ _ hd3] at z; cases Option.some.inj z)
        refine (R6.ex e7).but (p := p) (l := p) (d := p) (fun b o hb h1 _ _ => upd_Ne hb h1) (fun xs z => ?_) (fun xs z => ?_) (fun xs z => ?_) <;> (rw [e7 _ _ hp6] at z; cases Option.some.inj z)
      · exact fun b o hb h1 h2 h3 => upd_Ne (e7 _ _ (upd_Ne (e36 _ _ (B3 b o hb h1 h2 h3)) h3)) h1
abbrev s_Growth_read : Stmt := inClass (top 23) 1
abbrev N_Growth_read : List Str := ["self", "text", "before", "letter"]
theorem sc_Growth_read : FnScope N_Growth_read ["self", "text"] (defScope s_Growth_read) := ⟨rfl, rfl, rfl, by decide +kernel, rfl, by decide +kernel, by decide +kernel⟩
def spRead (CG : Addr) : Sp := fun vs H Q _ => ∃ (p l d : Addr) (rs : List Addr) (rows : List (Nat × Nat)) (at_ : Nat) (text : List Nat), vs = [.ref p, .str (S text)] ∧ GrAt CG H p l d rs rows at_ ∧ rows.length + text.length < 5000 ∧
  ∀ (v : V) (rs' : List Addr) (H' : Hp), GrAt CG H' p l d rs' (text.foldl stepC (rows, at_)).1 (text.foldl stepC (rows, at_)).2 → But3 H H' p l d → Q v H'
theorem stepC_len (s : List (Nat × Nat) × Nat) (c : Nat) : (stepC s c).1.length ≤ s.1.length + 1 := by
  unfold stepC
  cases ixR 1 s.1 (s.2, c) with
  | some k => exact Nat.le_succ _
  | none => show (s.1 ++ [_]).length ≤ _; rw [List.length_append]; exact Nat.le_refl _
theorem ok_Growth_read (T : TC K mg CG CC) (D_Growth_read_letter : DnM P w K mg base 1 CG "_read_letter" ["self", "row"] (spRL CG)) (F : AtM K CG "read" "Growth.read" s_Growth_read) : DnM P w K mg base 2 CG "read" ["self", "text"] (spRead CG) := by
  refine dnm_ok F sc_Growth_read (fun _ _ _ _ _ _ us hl => match us, hl with | [_, _], _ => rfl) (fun vs H Q E h => ?_) (fun f cdv A outer t H vs Q E hr h => ?_)
  · obtain ⟨p, l, d, rs, rows, at_, text, rfl, _⟩ := h; rfl
  · obtain ⟨p, l, d, rs, rows, at_, text, rfl, G, hlen, q⟩ := h
    refine ⟨_, (pss_cons (ps_set (i := 2) sc_Growth_read.nd rfl (Or.inl rfl) (pe_callB call_len_seq (by rfl) T.len boot_len (pa_cons (pe_fld (pv 0) rfl) pa_nil)))
      (pss_cons (ps_for PassesOwn.never rfl (pi_str (pv 1)) (pg_name (i := 3) sc_Growth_read.nd rfl (Or.inl rfl))
        (pss_one (ps_expr (pe_dm D_Growth_read_letter hr (by decide) T.growth (pv 0) (pa_cons (pe_tup (pa_cons (pe_fld (pv 0) rfl) (pa_cons (pv 3) pa_nil))) pa_nil)))))
      (pss_one (ps_ret (pe_slice sl_list (pe_fld (pv 0) rfl) (po_some (pv 2)) po_none))))), ?_⟩
    have gr : ∀ {H1 : Hp} {rs' : List Addr} {rows' : List (Nat × Nat)} {a' : Nat}, GrAt CG H1 p l d rs' rows' a' → ∀ {σ : L2.St}, σ[0]? = some (some (.ref p)) → Ev (tFld K (tVar 0) "rows") σ H1 (.ref l) := by
      intro H1 rs' rows' a' G' σ hs
      obtain ⟨dx, fs, hp, fr, fa, fn, nm, fl⟩ := G'.ob
      exact ev_fld (ev_var hs) hp T.growth T.nGr fr
    have ga : ∀ {H1 : Hp} {rs' : List Addr} {rows' : List (Nat × Nat)} {a' : Nat}, GrAt CG H1 p l d rs' rows' a' → ∀ {σ : L2.St}, σ[0]? = some (some (.ref p)) → Ev (tFld K (tVar 0) "at") σ H1 (.int (a' : Int)) := by
      intro H1 rs' rows' a' G' σ hs
      obtain ⟨dx, fs, hp, fr, fa, fn, nm, fl⟩ := G'.ob
      exact ev_fld (ev_var hs) hp T.growth T.nGa fa
    refine q_asg (ev_len (K := K) (gr G rfl) (sq_of G.ls)) fun H1 e1 => ?_
    refine q_forS (ev_var rfl) (fun i σ' H' => ∃ (rs' : List Addr) (rows' : List (Nat × Nat)) (a' : Nat) (v : Option V), σ' = [some (.ref p), some (.str (S text)), some (.int ((rV rs).length : Int)), v] ∧ But3 H H' p l d ∧ GrAt CG H' p l d rs' rows' a' ∧ rows'.length ≤ rows.length + i ∧ (text.drop i).foldl stepC (rows', a') = text.foldl stepC (rows, at_))
      (fun H2 e2 => ⟨rs, rows, at_, none, rfl, But3.of (e1.trans e2), G.ex (e1.trans e2), Nat.le_refl _, rfl⟩) ?_ ?_
    · rintro i c σ' H' hc ⟨rs', rows', a', v, rfl, B, G', hl', hf⟩
      rw [S_get] at hc
      have hi := (List.getElem?_eq_some_iff.mp hc).1
      rw [drop_get hc, List.foldl_cons] at hf
      obtain ⟨dx, fs, hp, _, _, _, nm, _⟩ := G'.ob
      refine ⟨.ref p, rfl, p, dx, fs, rfl, hp, nm.2, ?_⟩
      have hu : EvU (tTup (tCons (tFld K (tVar 0) "at") (tCons (tVar 3) tNil))) [some (.ref p), some (.str (S text)), some (.int ((rV rs).length : Int)), some (.str (S [c]))] H' (rowV (a', c)) := eu_tup (ea_cons (ga G' rfl) (ea_cons (ev_var rfl) ea_nil)) (by show 2 ≤ 100000; decide)
      refine hu H' (Ex.refl H') _ fun r H2 hr2 e2 h2 => ?_
      refine ⟨p, l, d, r, rs', rows', a', c, rfl, G'.ex e2, h2, by omega, fun rs2 H3 G3 B3 => ?_⟩
      have hsl := stepC_len (rows', a') c
      exact ⟨rs2, _, _, _, rfl, (B.ex e2).trans B3, G3, by show _ ≤ rows.length + (i + 1); have : (stepC (rows', a') c).1.length ≤ rows'.length + 1 := hsl; omega, hf⟩
    · rintro σ' H' ⟨rs', rows', a', v, rfl, B, G', hl', hf⟩
      rw [S_size, List.drop_length] at hf
      have hf' : (rows', a') = text.foldl stepC (rows, at_) := hf
      rw [← hf'] at q
      refine s_retL (el_sl (gr G' rfl) (eo_some (ev_var rfl)) eo_none (sq_of G'.ls)) fun pp H3 hpp e3 h3 => q _ rs' H3 (G'.ex e3) (B.ex e3)
end
end My

set_option Elab.async false
set_option linter.all false
set_option maxRecDepth 100000
set_option maxHeartbeats 4000000
namespace My
open PySem PySem.Spec PyProof.Rows L2 Evl
open SX (S S_len S_cat S_beq S_beq_eq S_inj S_tl)

section
variable {K : PySem.W.Frag} {σ : L2.St} {H : Hp} {ta tb te : TE} {tl th : TO} {v : V} {D : Ends} {tu tz : TS} {g : TG}
def rTupOf (K : PySem.W.Frag) : List V → Hp → VK → Prop := fun xs H Q => ∃ p ys, xs = [.ref p] ∧ ((SqL K H p ys ∧ ∀ l, H l = none → Q (.ref l) (upd H l (.tup ys))) ∨ (SqT K H p ys ∧ Q (.ref p) H))
theorem eu_tupOf {p : Addr} {xs : List V} (h : Ev te σ H (.ref p)) (hS : SqL K H p xs) : EvU (tCB (rTupOf K) (tCons te tNil)) σ H xs := fun H1 e Q q => h H1 e _ fun H2 e2 =>
  ⟨p, xs, rfl, Or.inl ⟨ex_l (e.trans e2) hS, fun l hl => q l _ (fresh_back e2 hl) (e2.trans (Ex.new hl)) upd_same⟩⟩
/-- the same of a new list -/
theorem eu_tupOfN {xs : List V} (h : EvL te σ H xs) : EvU (tCB (rTupOf K) (tCons te tNil)) σ H xs := fun H1 e Q q => h H1 e _ fun p H2 hp e2 h2 =>
  ⟨p, xs, rfl, Or.inl ⟨sq_of h2, fun l hl => q l _ (fresh_back e2 hl) (e2.trans (Ex.new hl)) upd_same⟩⟩
theorem ev_tupOf {p : Addr} {xs : List V} (h : Ev te σ H (.ref p)) (hS : SqT K H p xs) : Ev (tCB (rTupOf K) (tCons te tNil)) σ H (.ref p) := fun H1 e Q q => h H1 e _ fun H2 e2 =>
  ⟨p, xs, rfl, Or.inr ⟨ex_t (e.trans e2) hS, q H2 e2⟩⟩
theorem eu_slT {a : Addr} {xs : List V} {lo hi : Option Int} (h : Ev te σ H (.ref a)) (h1 : EvO tl σ H lo) (h2 : EvO th σ H hi) (hS : SqT K H a xs) (hn : ¬ (HT.sIx xs.length 0 lo = 0 ∧ HT.sIx xs.length xs.length hi = xs.length)) : EvU (tSl (rSlT K) te tl th) σ H (cutV xs lo hi) := fun H1 e Q q =>
  h H1 e _ fun H2 e2 => h1 H2 (e.trans e2) _ fun H3 e3 => h2 H3 ((e.trans e2).trans e3) _ fun H4 e4 => ⟨a, xs, rfl, ex_t (((e.trans e2).trans e3).trans e4) hS, hn, fun p hp => q p _ (fresh_back ((e2.trans e3).trans e4) hp) (((e2.trans e3).trans e4).trans (Ex.new hp)) upd_same⟩
/-- for over a new tuple -/
theorem s_forUT {xs : List V} {tl : TE} (h : EvU tl σ H xs) (Pv : Addr → Nat → L2.St → Hp → Prop) (h0 : ∀ p H1, H p = none → Ex H H1 → H1 p = some (.tup xs) → Pv p 0 σ H1) (hl : ∀ p i σ' H', i ≤ xs.length → Pv p i σ' H' → SqT K H' p xs)
    (hs : ∀ p i x σ' H', xs[i]? = some x → Pv p i σ' H' → g x σ' H' fun σ2 H2 => tu { D with nx := Pv p (i + 1), ct := Pv p (i + 1), bk := D.nx } σ2 H2) (hd : ∀ p σ' H', Pv p xs.length σ' H' → D.nx σ' H') : tFor (iTup K tl) g tu D σ H :=
  h H (Ex.refl H) _ fun p H1 hp e h1 => ⟨p, rfl, ⟨xs, st_of h1⟩, for_tup (Pv p) (h0 p H1 hp e h1) (hl p) (hs p) (hd p)⟩
theorem q_forUT {xs : List V} {tl : TE} (h : EvU tl σ H xs) (Pv : Addr → Nat → L2.St → Hp → Prop) (h0 : ∀ p H1, H p = none → Ex H H1 → H1 p = some (.tup xs) → Pv p 0 σ H1) (hl : ∀ p i σ' H', i ≤ xs.length → Pv p i σ' H' → SqT K H' p xs)
    (hs : ∀ p i x σ' H', xs[i]? = some x → Pv p i σ' H' → g x σ' H' fun σ2 H2 => tu { D with nx := Pv p (i + 1), ct := Pv p (i + 1), bk := tz D } σ2 H2) (hd : ∀ p σ' H', Pv p xs.length σ' H' → tz D σ' H') : tSeq (tFor (iTup K tl) g tu) tz D σ H :=
  s_forUT (D := { D with nx := tz D }) h Pv h0 hl hs hd
theorem ev_lenT {p : Addr} {xs : List V} (ha : Ev ta σ H (.ref p)) (h : SqT K H p xs) : Ev (tCB (rLenS K) (tCons ta tNil)) σ H (.int (xs.length : Int)) := fun H1 e Q q =>
  ha H1 e _ fun H2 e2 => ⟨p, xs, rfl, Or.inr (ex_t (e.trans e2) h), q H2 e2⟩
theorem ev_joinT {p : Addr} {ls : List (List Nat)} (ho : Ev ta σ H (.str (S []))) (hb : Ev tb σ H (.ref p)) (hS : SqT K H p (sV ls)) (hz : (ls.map List.length).sum ≤ 1000000) : Ev (tM1 (rJoin K) ta tb) σ H (.str (S ls.flatten)) := fun H1 e Q q =>
  ho H1 e _ fun H2 e2 => ⟨⟨_, rfl⟩, hb H2 (e.trans e2) _ fun H3 e3 => ⟨S [], p, ls.map S, rfl, rfl, Or.inr (by rw [List.map_map]; exact ex_t ((e.trans e2).trans e3) hS), by
    rw [SX.lens, List.length_map]
    have : (S ([] : List Nat)).length = 0 := rfl
    rw [this, Nat.mul_zero]
    exact Nat.le_trans hz (by decide), by
    rw [SX.join_S, joinL_nil]
    exact q H3 (e2.trans e3)⟩⟩
end
def RetU (xs : List V) (H : Hp) (Q : VK) : Prop := ∀ p H2, H p = none → Ex H H2 → H2 p = some (.tup xs) → Q (.ref p) H2
def SpU (sp : Sp) (vs : List V) (H : Hp) (xs : List V) : Prop := ∀ H1, Ex H H1 → ∀ Q : VK, (∀ p H2, H1 p = none → Ex H1 H2 → H2 p = some (.tup xs) → Q (.ref p) H2) → ∀ E : XK, sp vs H1 Q E
theorem eu_call {σ : L2.St} {H : Hp} {sp : Sp} {dvs vs xs : List V} {E : XK} {ta : TA} (h : EvA ta σ H vs) (hs : SpU sp (vs ++ dvs) H xs) : EvU (tCall sp dvs E ta) σ H xs := fun H1 e Q q =>
  h H1 e _ fun H2 e2 => hs H2 (e.trans e2) Q (fun p H3 hp e3 h3 => q p H3 (fresh_back e2 hp) (e2.trans e3) h3) E
theorem at_sV {ls : List (List Nat)} {i : Nat} (h : i < ls.length) : atI (sV ls) (i : Int) = some (.str (S (ls.getD i []))) := by
  have e : ixN (sV ls).length (i : Int) = some i := by
    unfold ixN
    rw [List.length_map, if_pos (by omega), if_pos (by omega)]
    simp
  unfold atI
  rw [e]
  show (sV ls)[i]? = _
  rw [List.getElem?_map, List.getElem?_eq_getElem h, List.getD_eq_getElem?_getD, List.getElem?_eq_getElem h]
  rfl
theorem take_snoc {α : Type} {l : List α} {i : Nat} {x : α} (h : l[i]? = some x) : l.take (i + 1) = l.take i ++ [x] := by
  obtain ⟨hi, e⟩ := List.getElem?_eq_some_iff.mp h
  rw [List.take_succ_eq_append_getElem hi, e]
abbrev ParOk (rows : List (Nat × Nat)) : Prop := ∀ (i : Nat) (r : Nat × Nat), rows[i]? = some r → r.1 ≤ i
theorem ParOk.take {rows : List (Nat × Nat)} (h : ParOk rows) (n : Nat) : ParOk (rows.take n) := fun i r hr => by
  have hi := (List.getElem?_eq_some_iff.mp hr).1
  rw [List.length_take] at hi
  rw [List.getElem?_take_of_lt (by omega)] at hr
  exact h i r hr
section
variable {P : Program} {w : World} {K : PySem.W.Frag} {mg : Str → Option Value} {base : Heap}

variable {CG CC : Addr}
abbrev s_piece_texts : Stmt := top 28
abbrev N_piece_texts : List Str := ["rows", "texts", "parent", "letter"]
theorem sc_piece_texts : FnScope N_piece_texts ["rows"] (defScope s_piece_texts) := ⟨rfl, rfl, rfl, by decide +kernel, rfl, by decide +kernel, by decide +kernel⟩
def spPT (K : PySem.W.Frag) : Sp := fun vs H Q _ => ∃ (k : Addr) (rs : List Addr) (rows : List (Nat × Nat)), vs = [.ref k] ∧ SqT K H k (rV rs) ∧ RowsAt H rs rows ∧ ParOk rows ∧ rows.length ≤ 5000 ∧ RetU (sV (piF rows)) H Q
theorem su_pt {k : Addr} {rs : List Addr} {rows : List (Nat × Nat)} {H : Hp} (hS : SqT K H k (rV rs)) (R : RowsAt H rs rows) (hp : ParOk rows) (hl : rows.length ≤ 5000) : SpU (spPT K) [.ref k] H (sV (piF rows)) := fun H1 e Q q _ => ⟨k, rs, rows, rfl, ex_t e hS, R.ex e, hp, hl, fun p H2 hp e2 h2 => q p H2 hp e2 h2⟩
theorem ok_piece_texts (T : TC K mg CG CC) (F : At K mg "_piece_texts" s_piece_texts) : Dn P w K mg base 1 "_piece_texts" s_piece_texts ["rows"] (spPT K) := by
  refine dn_ok F sc_piece_texts (fun _ _ _ _ _ _ us hl => match us, hl with | [_], _ => rfl) (fun vs H Q E h => ?_) (fun f cdv A outer t H vs Q E hr h => ?_)
  · obtain ⟨k, rs, rows, rfl, _⟩ := h; rfl
  · obtain ⟨k, rs, rows, rfl, hS, R, hp, hl, q⟩ := h
    refine ⟨_, (pss_cons (ps_set (i := 1) sc_piece_texts.nd rfl (Or.inl rfl) (pe_lst (pa_cons pe_str pa_nil)))
      (pss_cons (ps_for PassesOwn.never rfl (pi_tup (pv 0)) (pg_tup rfl (pgs_cons (pg_name (i := 2) sc_piece_texts.nd rfl (Or.inl rfl)) (pgs_cons (pg_name (i := 3) sc_piece_texts.nd rfl (Or.inl rfl)) pgs_nil)))
        (pss_one (ps_expr (pe_bm PySem.F.plainAttrs_list PySem.F.slot_list_append PySem.F.type_list_append mt_append (pv 1) (pa_cons (pe_op op_add_str (pe_ix ix_list (pv 1) (pv 2) (fun _ _ => rfl)) (pv 3)) pa_nil)))))
      (pss_one (ps_ret (pe_callTy call_tuple_of (by rfl) T.tuple_ (by decide +kernel) (pa_cons (pv 1) pa_nil)))))), ?_⟩
    refine q_asgL (xs := sV (piF [])) (el_lst (ea_cons ev_c ea_nil) (by show 1 ≤ 100000; decide)) fun l H1 nl e1 h1 => ?_
    refine q_forT (ev_var rfl) (ex_t e1 hS) (fun i σ' H' => ∃ x y : Option V, σ' = [some (.ref k), some (.ref l), x, y] ∧ Ex H H' ∧ H' l = some (.lst (sV (piF (rows.take i)))))
      (fun H2 e2 => ⟨none, none, rfl, e1.trans e2, e2 _ _ h1⟩) (fun i σ' H' _ ⟨_, _, _, e, _⟩ => ex_t e hS) ?_ ?_
    · rintro i x σ' H' hx ⟨y, z, rfl, e, hls⟩
      obtain ⟨a, r, rfl, hrr, ha⟩ := R.get hx
      have hi := (List.getElem?_eq_some_iff.mp hrr).1
      have hpr := hp i r hrr
      refine g_two (e _ _ ha) ?_
      have hlen := piF_len (rows.take i)
      rw [List.length_take] at hlen
      have hsh := piF_short (hp.take i) r.1 (by rw [List.length_take]; omega)
      refine s_app hls (ev_var rfl) (ev_op (ev_op (ev_var rfl) (ev_var rfl) (rv_ixL (K := K) (sq_of hls) (at_sV (by omega)))) (ev_var rfl) (rv_addS (by show _ + 1 ≤ 1000000; omega))) (by rw [List.length_map]; omega) fun H3 e3 => ?_
      refine ⟨_, _, rfl, Ex.mut (e.trans e3) nl, ?_⟩
      rw [take_snoc hrr, piF_snoc, upd_same]
      simp [sV]
    · rintro σ' H' ⟨y, z, rfl, e, hls⟩
      rw [List.length_map, R.len, List.take_length] at hls
      exact s_retU (eu_tupOf (ev_var rfl) (sq_of hls)) fun p H3 hp3 e3 h3 => q p H3 (fresh_back e hp3) (e.trans e3) h3
abbrev s_check_rows : Stmt := top 27
abbrev N_check_rows : List Str := ["alphabet", "rows", "known", "index", "parent", "letter"]
theorem sc_check_rows : FnScope N_check_rows ["alphabet", "rows"] (defScope s_check_rows) := ⟨rfl, rfl, rfl, by decide +kernel, rfl, by decide +kernel, by decide +kernel⟩
def kvB (rows : List (Nat × Nat)) : List (List Key × V) := rows.map fun r => (kPair r, V.bl true)
theorem kvB_none : ∀ {rows : List (Nat × Nat)} {x : Nat × Nat}, x ∉ rows → valV (kvB rows) (kPair x) = none
  | [], _, _ => rfl
  | r :: rows, x, h => by
    show valV ((kPair r, V.bl true) :: kvB rows) (kPair x) = none
    rw [valV_neg (fun z => h (by rw [kPair_inj z]; exact List.mem_cons_self))]
    exact kvB_none fun z => h (List.mem_cons_of_mem _ z)
theorem nodup_fresh {α : Type} {l : List α} (nd : l.Nodup) {i : Nat} {x : α} (h : l[i]? = some x) : x ∉ l.take i := by
  intro hm
  obtain ⟨j, hj, e⟩ := List.mem_iff_getElem.mp hm
  rw [List.length_take] at hj
  rw [List.getElem_take] at e
  obtain ⟨hi, e2⟩ := List.getElem?_eq_some_iff.mp h
  have := nodup_idx nd (i := j) (j := i) (by omega) hi (e.trans e2.symm)
  omega
def spCR (K : PySem.W.Frag) : Sp := fun vs H Q _ => ∃ (abc : List Nat) (k : Addr) (rs : List Addr) (rows : List (Nat × Nat)), vs = [.str (S abc), .ref k] ∧ SqT K H k (rV rs) ∧ RowsAt H rs rows ∧ ParOk rows ∧ rows.Nodup ∧ (∀ r ∈ rows, r.2 ∈ abc) ∧ rows.length ≤ 5000 ∧ RetV .non H Q
theorem sv_cr {abc : List Nat} {k : Addr} {rs : List Addr} {rows : List (Nat × Nat)} {H : Hp} (hS : SqT K H k (rV rs)) (R : RowsAt H rs rows) (hp : ParOk rows) (nd : rows.Nodup) (hc : ∀ r ∈ rows, r.2 ∈ abc) (hl : rows.length ≤ 5000) : SpV (spCR K) [.str (S abc), .ref k] H .non := fun H1 e Q q _ => ⟨abc, k, rs, rows, rfl, ex_t e hS, R.ex e, hp, nd, hc, hl, q⟩
theorem ok_check_rows (D_is_whole : Dn P w K mg base 1 "is_whole" s_is_whole ["value"] spWhole) (D_is_letter : Dn P w K mg base 1 "is_letter" s_is_letter ["alphabet", "value"] spLetter) (T : TC K mg CG CC) (F : At K mg "_check_rows" s_check_rows) : Dn P w K mg base 2 "_check_rows" s_check_rows ["alphabet", "rows"] (spCR K) := by
  refine dn_ok F sc_check_rows (fun _ _ _ _ _ _ us hl => match us, hl with | [_, _], _ => rfl) (fun vs H Q E h => ?_) (fun f cdv A outer t H vs Q E hr h => ?_)
  · obtain ⟨abc, k, rs, rows, rfl, _⟩ := h; rfl
  · obtain ⟨abc, k, rs, rows, rfl, hS, R, hp, nd, hc, hl, q⟩ := h
    refine ⟨_, (pss_cons (ps_set (i := 2) sc_check_rows.nd rfl (Or.inl rfl) pe_dnewT)
      (pss_one (ps_for PassesOwn.never rfl (pi_enumT (by rfl) T.enumerate (pa_cons (pv 1) pa_nil)) (pg_tup rfl (pgs_cons (pg_name (i := 3) sc_check_rows.nd rfl (Or.inl rfl)) (pgs_cons (pg_tup rfl (pgs_cons (pg_name (i := 4) sc_check_rows.nd rfl (Or.inl rfl)) (pgs_cons (pg_name (i := 5) sc_check_rows.nd rfl (Or.inl rfl)) pgs_nil))) pgs_nil)))
        (pss_cons (ps_if (PW.pt (pw_or (pt_not (pt_val (pe_dn D_is_whole hr (by decide) rfl (pa_cons (pv 4) pa_nil)))) (pw_or1 (pt_not (pt_chain op_le op_le pe_int (pv 4) (pv 3)))))) (pss_one ps_never) pss_nil)
          (pss_cons (ps_if (PW.pt (pw_or (pt_not (pt_val (pe_dn D_is_letter hr (by decide) rfl (pa_cons (pv 0) (pa_cons (pv 5) pa_nil))))) (pw_or1 (pt_cmp (pc_din (hu_of hr) (pe_tup (pa_cons (pv 4) (pa_cons (pv 5) pa_nil))) (pv 2)))))) (pss_one ps_never) pss_nil)
          (pss_one (ps_dput (hu_of hr) (pv 2) (pe_tup (pa_cons (pv 4) (pa_cons (pv 5) pa_nil))) pe_bl rfl))))))), ?_⟩
    refine q_asgN en_dT fun d H1 nd1 e1 h1 => ?_
    refine s_forET (ev_var rfl) (ex_t e1 hS) (fun i σ' H' => ∃ x y z : Option V, σ' = [some (.str (S abc)), some (.ref k), some (.ref d), x, y, z] ∧ Ex H H' ∧ H' d = some (.dT (kvB (rows.take i))))
      (fun H2 e2 => ⟨none, none, none, rfl, e1.trans e2, e2 _ _ h1⟩) (fun i σ' H' ⟨_, _, _, _, e, _⟩ => ex_t e hS) ?_ ?_
    · rintro i x σ' H' hx ⟨y, z, u, rfl, e, hd⟩ T' H2 e2 hT
      obtain ⟨a, r, rfl, hrr, ha⟩ := R.get hx
      have hi := (List.getElem?_eq_some_iff.mp hrr).1
      have hpr := hp i r hrr
      have e12 := e.trans e2
      refine g_three hT (e12 _ _ ha) ?_
      refine q_when (b := !true || !(decide ((0 : Int) ≤ (r.1 : Int)) && decide ((r.1 : Int) ≤ (i : Int)))) (et_or (et_not (et_B (ev_call (ea_cons (ev_var rfl) ea_nil) sv_whole))) fun _ => et_not (et_chain ev_c (ev_var rfl) (ev_var rfl) rv_I0 rv_I0)) (fun hb H3 e3 => ?_) (fun _ H3 e3 => ?_)
      · rw [decide_eq_true (by omega), decide_eq_true (by omega)] at hb
        exact absurd hb (by decide)
      have hd3 := e3 _ _ (e2 _ _ hd)
      have hn := kvB_none (nodup_fresh nd hrr)
      have hpair : ∀ H4, Ex H3 H4 → EvU (tTup (tCons (tVar 4) (tCons (tVar 5) tNil))) [some (.str (S abc)), some (.ref k), some (.ref d), some (.int (i : Int)), some (.int (r.1 : Int)), some (.str (S [r.2]))] H4 ((kPair r).map kV) := fun H4 e4 => eu_tup (ea_cons (ev_var rfl) (ea_cons (ev_var rfl) ea_nil)) (by show 2 ≤ 100000; decide)
      refine q_when (b := !true || false) (et_or (et_not (et_B (ev_call (ea_cons (ev_var rfl) (ea_cons (ev_var rfl) ea_nil)) (sv_letter (hc r (List.mem_of_getElem? hrr)))))) fun _ => et_B (ev_is (ev_dinU (hpair H3 (Ex.refl H3)) (ev_var rfl) hd3) (by rw [hn]; rfl))) (fun hb => absurd hb (by decide)) fun _ H4 e4 => ?_
      have hlen : (kvB (rows.take i)).length ≤ 5000 := by
        show ((rows.take i).map _).length ≤ 5000
        rw [List.length_map, List.length_take]
        omega
      refine s_dputU ev_c (ev_var rfl) (hpair H4 e4) (e4 _ _ hd3) (by show _ < 16777216; omega) fun H5 e5 => ?_
      refine ⟨_, _, _, rfl, Ex.mut (((e12.trans e3).trans e4).trans e5) nd1, ?_⟩
      rw [putK_new _ hn, take_snoc hrr, upd_same]
      simp [kvB]
    · rintro σ' H' ⟨y, z, u, rfl, e, hd⟩
      exact q H' e
end
end My

set_option Elab.async false
set_option linter.all false
set_option maxRecDepth 100000
set_option maxHeartbeats 4000000
namespace My
open PySem PySem.Spec PyProof.Rows L2 Evl
open SX (S S_len S_cat S_beq S_beq_eq S_inj S_tl)

/-- where the pieces start: 0, then one start behind each piece -/
def startsF (ps : List (List Nat)) : List Nat := ps.tail.foldl (fun st p => st ++ [st.getD (st.length - 1) 0 + p.length]) [0]
theorem at_last {l : List Nat} (h : 0 < l.length) : atI (nV l) (-1) = some (.int (l.getD (l.length - 1) 0 : Nat)) := by
  have e : ixN (nV l).length (-1) = some (l.length - 1) := by
    unfold ixN
    rw [nV_len, if_neg (by decide), if_pos (by omega)]
    congr 1
    omega
  unfold atI
  rw [e]
  show (nV l)[l.length - 1]? = _
  rw [List.getElem?_map, List.getElem?_eq_getElem (by omega), List.getD_eq_getElem?_getD, List.getElem?_eq_getElem (by omega)]
  rfl
theorem starts_len : ∀ (ps : List (List Nat)) (st : List Nat), 0 < st.length → 0 < (ps.foldl (fun st p => st ++ [st.getD (st.length - 1) 0 + p.length]) st).length
  | [], st, h => h
  | p :: ps, st, h => starts_len ps _ (by rw [List.length_append]; show 0 < _ + 1; omega)
def But1 (H H' : Hp) (p : Addr) : Prop := ∀ b o, H b = some o → b ≠ p → H' b = some o
theorem But1.ex {H H' H'' : Hp} {p : Addr} (b : But1 H H' p) (e : Ex H' H'') : But1 H H'' p := fun a o h n => e _ _ (b a o h n)
theorem But1.upd {H H' : Hp} {p : Addr} {o : HO} (b : But1 H H' p) : But1 H (upd H' p o) p := fun a u h n => upd_Ne (b a u h n) n
theorem RowsAt.but1 {H H' : Hp} {p : Addr} (b : But1 H H' p) (hp : ∀ xs, H p ≠ some (.tup xs)) {as : List Addr} {rs : List (Nat × Nat)} (R : RowsAt H as rs) : RowsAt H' as rs :=
  R.but (p := p) (l := p) (d := p) (fun a o h n _ _ => b a o h n) hp hp hp
/-- a cut stands at p -/
def CutAt (CC : Addr) (H : Hp) (p : Addr) (abc : List Nat) (rows : List (Nat × Nat)) (at_ : Nat) : Prop :=
  ∃ (dx k q t : Addr) (rs : List Addr) (fs : List (Str × V)), H p = some (.ins CC dx fs) ∧ fs.lookup ("alphabet" : Str) = some (.str (S abc)) ∧ fs.lookup ("rows" : Str) = some (.ref k) ∧ fs.lookup ("tail" : Str) = some (.int (at_ : Int)) ∧ fs.lookup ("pieces" : Str) = some (.ref q) ∧
    fs.lookup ("many" : Str) = some (.int (rows.length : Int)) ∧ fs.lookup ("text" : Str) = some (.str (S (((piF rows).tail).flatten ++ (piF rows).getD at_ []))) ∧ fs.lookup ("starts" : Str) = some (.ref t) ∧
    H k = some (.tup (rV rs)) ∧ RowsAt H rs rows ∧ H q = some (.tup (sV (piF rows))) ∧ H t = some (.tup (nV (startsF (piF rows))))
theorem CutAt.ex {CC : Addr} {H H' : Hp} {p : Addr} {abc : List Nat} {rows : List (Nat × Nat)} {at_ : Nat} (e : Ex H H') (C : CutAt CC H p abc rows at_) : CutAt CC H' p abc rows at_ := by
  obtain ⟨dx, k, q, t, rs, fs, h, f1, f2, f3, f4, f5, f6, f7, hk, R, hq, ht⟩ := C
  exact ⟨dx, k, q, t, rs, fs, e _ _ h, f1, f2, f3, f4, f5, f6, f7, e _ _ hk, R.ex e, e _ _ hq, e _ _ ht⟩
theorem flat_cons {ls : List (List Nat)} (h : 0 < ls.length) (h0 : ls.getD 0 [] = []) : ls.flatten = ls.tail.flatten := by
  cases ls with
  | nil => exact absurd h (Nat.lt_irrefl _)
  | cons l ls =>
    have : l = [] := h0
    rw [this]
    rfl
theorem sum_flat (ls : List (List Nat)) : (ls.map List.length).sum = ls.flatten.length := by rw [List.length_flatten]
section
variable {P : Program} {w : World} {K : PySem.W.Frag} {mg : Str → Option Value} {base : Heap}

variable {CG CC : Addr}
abbrev s_starts_of : Stmt := top 29
abbrev N_starts_of : List Str := ["pieces", "starts", "piece"]
theorem sc_starts_of : FnScope N_starts_of ["pieces"] (defScope s_starts_of) := ⟨rfl, rfl, rfl, by decide +kernel, rfl, by decide +kernel, by decide +kernel⟩
def spSO (K : PySem.W.Frag) : Sp := fun vs H Q _ => ∃ (q' : Addr) (ps : List (List Nat)), vs = [.ref q'] ∧ SqT K H q' (sV ps) ∧ 0 < ps.length ∧ ps.length ≤ 6000 ∧ (∀ p ∈ ps, p.length ≤ 6000) ∧ RetU (nV (startsF ps)) H Q
theorem su_so {q' : Addr} {ps : List (List Nat)} {H : Hp} (hS : SqT K H q' (sV ps)) (h0 : 0 < ps.length) (hl : ps.length ≤ 6000) (hp : ∀ p ∈ ps, p.length ≤ 6000) : SpU (spSO K) [.ref q'] H (nV (startsF ps)) := fun H1 e Q q _ => ⟨q', ps, rfl, ex_t e hS, h0, hl, hp, fun p H2 hp e2 h2 => q p H2 hp e2 h2⟩
theorem ok_starts_of (T : TC K mg CG CC) (F : At K mg "_starts_of" s_starts_of) : Dn P w K mg base 1 "_starts_of" s_starts_of ["pieces"] (spSO K) := by
  refine dn_ok F sc_starts_of (fun _ _ _ _ _ _ us hl => match us, hl with | [_], _ => rfl) (fun vs H Q E h => ?_) (fun f cdv A outer t H vs Q E hr h => ?_)
  · obtain ⟨q', ps, rfl, _⟩ := h; rfl
  · obtain ⟨q', ps, rfl, hS, h0, hl, hp, q⟩ := h
    refine ⟨_, (pss_cons (ps_set (i := 1) sc_starts_of.nd rfl (Or.inl rfl) (pe_lst (pa_cons pe_int pa_nil)))
      (pss_cons (ps_for PassesOwn.never rfl (pi_tup (pe_slice sl_tup (pv 0) (po_some pe_int) po_none)) (pg_name (i := 2) sc_starts_of.nd rfl (Or.inl rfl))
        (pss_one (ps_expr (pe_bm PySem.F.plainAttrs_list PySem.F.slot_list_append PySem.F.type_list_append mt_append (pv 1) (pa_cons (pe_op op_add (pe_ix ix_list (pv 1) (pe_un un_neg pe_int) (fun _ _ => rfl)) (pe_callB call_len_str (by rfl) T.len boot_len (pa_cons (pv 2) pa_nil))) pa_nil)))))
      (pss_one (ps_ret (pe_callTy call_tuple_of (by rfl) T.tuple_ (by decide +kernel) (pa_cons (pv 1) pa_nil)))))), ?_⟩
    refine q_asgL (xs := nV [0]) (el_lst (ea_cons ev_c ea_nil) (by show 1 ≤ 100000; decide)) fun l H1 nl e1 h1 => ?_
    have hcut : cutV (sV ps) (some 1) none = sV ps.tail := by
      rw [cutV_L, cutL_map, cutL_from (by decide)]
      show sV (ps.drop 1) = _
      rw [List.drop_one]
    refine q_forUT (xs := sV ps.tail) (by
      rw [← hcut]
      refine eu_slT (ev_var rfl) (eo_some ev_c) eo_none (ex_t e1 hS) ?_
      rintro ⟨a, _⟩
      have hm : HT.sIx (sV ps).length 0 (some 1) = min 1 (sV ps).length := rfl
      rw [hm, List.length_map] at a
      omega) (fun p' i σ' H' => ∃ (st : List Nat) (v : Option V), σ' = [some (.ref q'), some (.ref l), v] ∧ Ex H H' ∧ H' p' = some (.tup (sV ps.tail)) ∧ p' ≠ l ∧ H' l = some (.lst (nV st)) ∧ 0 < st.length ∧ st.length ≤ i + 1 ∧ (ps.tail.drop i).foldl (fun st p => st ++ [st.getD (st.length - 1) 0 + p.length]) st = startsF ps)
      (fun p' H2 hp' e2 h2 => ⟨[0], none, rfl, e1.trans e2, h2, (fun z => by rw [z, h1] at hp'; cases hp'), e2 _ _ h1, by decide, by decide, rfl⟩) (fun p' i σ' H' _ ⟨_, _, _, _, h, _⟩ => st_of h) ?_ ?_
    · rintro p' i x σ' H' hx ⟨st, v, rfl, e, hp', hne, hls, hst, hsl, hf⟩
      rw [List.getElem?_map] at hx
      cases hpi : ps.tail[i]? with
      | none => rw [hpi] at hx; cases hx
      | some pc =>
        rw [hpi] at hx
        cases Option.some.inj hx
        have hi := (List.getElem?_eq_some_iff.mp hpi).1
        rw [List.length_tail] at hi
        have hpl := hp pc (List.mem_of_mem_tail (List.mem_of_getElem? hpi))
        rw [drop_get hpi, List.foldl_cons] at hf
        have ev : ((st.getD (st.length - 1) 0 : Nat) : Int) + ((S pc).length : Int) = ((st.getD (st.length - 1) 0 + pc.length : Nat) : Int) := by rw [S_len]; omega
        refine s_app hls (ev_var rfl) (ev_is (ev_op (ev_op (ev_var rfl) (ev_un ev_c ru_neg) (rv_ixL (K := K) (sq_of hls) (at_last hst))) (ev_lenStr (ev_var rfl) (by rw [S_len]; show _ ≤ 16777216; omega)) rv_I0) (congrArg V.int ev)) (by rw [nV_len]; omega) fun H3 e3 => ?_
        rw [nV_app]
        exact ⟨_, _, rfl, Ex.mut (e.trans e3) nl, upd_Ne (e3 _ _ hp') hne, hne, upd_same, by rw [List.length_append]; show 0 < _ + 1; omega, by rw [List.length_append]; show _ + 1 ≤ _; omega, hf⟩
    · rintro p' σ' H' ⟨st, v, rfl, e, hp', hne, hls, hst, hsl, hf⟩
      rw [List.length_map, List.drop_length] at hf
      have hf' : st = startsF ps := hf
      subst hf'
      exact s_retU (eu_tupOf (ev_var rfl) (sq_of hls)) fun p H3 hp3 e3 h3 => q p H3 (fresh_back e hp3) (e.trans e3) h3

abbrev s_Cut__init : Stmt := inClass (top 25) 0
abbrev N_Cut__init : List Str := ["self", "alphabet", "rows", "tail", "kept", "row"]
theorem sc_Cut__init : FnScope N_Cut__init ["self", "alphabet", "rows", "tail"] (defScope s_Cut__init) := ⟨rfl, rfl, rfl, by decide +kernel, rfl, by decide +kernel, by decide +kernel⟩
def spCI (K : PySem.W.Frag) (CC : Addr) : Sp := fun vs H Q _ => ∃ (p dx l : Addr) (abc : List Nat) (rs : List Addr) (rows : List (Nat × Nat)) (at_ : Nat), vs = [.ref p, .str (S abc), .ref l, .int (at_ : Int)] ∧ H p = some (.ins CC dx []) ∧ H l = some (.lst (rV rs)) ∧ RowsAt H rs rows ∧
  AbcOk abc ∧ ParOk rows ∧ rows.Nodup ∧ (∀ r ∈ rows, r.2 ∈ abc) ∧ rows.length ≤ 5000 ∧ at_ ≤ rows.length ∧ ((piF rows).tail).flatten.length + ((piF rows).getD at_ []).length ≤ 900000 ∧ ∀ H', CutAt CC H' p abc rows at_ → But1 H H' p → Q .non H'
theorem ok_Cut_init (D_check_alphabet : Dn P w K mg base 2 "check_alphabet" s_check_alphabet ["alphabet"] spChA) (D_check_rows : Dn P w K mg base 2 "_check_rows" s_check_rows ["alphabet", "rows"] (spCR K)) (D_is_whole : Dn P w K mg base 1 "is_whole" s_is_whole ["value"] spWhole)
    (D_piece_texts : Dn P w K mg base 1 "_piece_texts" s_piece_texts ["rows"] (spPT K)) (D_starts_of : Dn P w K mg base 1 "_starts_of" s_starts_of ["pieces"] (spSO K)) (T : TC K mg CG CC) (F : AtI K CC "Cut.__init__" s_Cut__init) : DnI P w K mg base 3 CC ["self", "alphabet", "rows", "tail"] (spCI K CC) := by
  refine dni_ok F sc_Cut__init (fun _ _ _ _ _ _ us hl => match us, hl with | [_, _, _, _], _ => rfl) (fun vs H Q E h => ?_) (fun f cdv A outer t H vs Q E hr h => ?_)
  · obtain ⟨p, dx, l, abc, rs, rows, at_, rfl, _⟩ := h; rfl
  · obtain ⟨p, dx, l, abc, rs, rows, at_, rfl, hp0, hl, R, ha, hpar, nd, hc, hlen, hat, hsz, q⟩ := h
    refine ⟨_, (pss_cons (ps_expr (pe_dn D_check_alphabet hr (by decide) rfl (pa_cons (pv 1) pa_nil)))
      (pss_cons (ps_set (i := 4) sc_Cut__init.nd rfl (Or.inl rfl) (pe_callTy call_tuple_of (by rfl) T.tuple_ (by decide +kernel) (pa_cons (pe_lc (te := tCB (rTupOf K) (tCons (tVar 5) tNil)) (own := [("row", 5)]) (g := gName 5) (tt := tYes) rfl sc_Cut__init.nd (pi_list (pv 2)) (blkOk_by (own := [("row", 5)]) (N := N_Cut__init) (sc := defScope s_Cut__init) (by decide +kernel)) (fun _ _ _ _ _ => pg_name (i := 5) sc_Cut__init.nd rfl (Or.inl rfl)) (fun _ _ _ _ _ => pts_nil) (fun _ _ _ _ _ => (pe_callTy call_tuple_of (by rfl) T.tuple_ (by decide +kernel) (pa_cons (pv 5) pa_nil)))) pa_nil)))
      (pss_cons (ps_expr (pe_dn D_check_rows hr (by decide) rfl (pa_cons (pv 1) (pa_cons (pv 4) pa_nil))))
      (pss_cons (ps_if (PW.pt (pw_or (pt_not (pt_val (pe_dn D_is_whole hr (by decide) rfl (pa_cons (pv 3) pa_nil)))) (pw_or1 (pt_not (pt_chain op_le op_le pe_int (pv 3) (pe_callB call_len_seq (by rfl) T.len boot_len (pa_cons (pv 4) pa_nil))))))) (pss_one ps_never) pss_nil)
      (pss_cons (ps_fld (pv 0) (pv 1) rfl)
      (pss_cons (ps_fld (pv 0) (pv 4) rfl)
      (pss_cons (ps_fld (pv 0) (pv 3) rfl)
      (pss_cons (ps_fld (pv 0) (pe_dn D_piece_texts hr (by decide) rfl (pa_cons (pv 4) pa_nil)) rfl)
      (pss_cons (ps_fld (pv 0) (pe_callB call_len_seq (by rfl) T.len boot_len (pa_cons (pv 4) pa_nil)) rfl)
      (pss_cons (ps_fld (pv 0) (pe_op op_add_str (pe_join pe_str (pe_fld (pv 0) rfl)) (pe_ix ix_tup (pe_fld (pv 0) rfl) (pv 3) (fun _ _ => rfl))) rfl)
      (pss_one (ps_fld (pv 0) (pe_dn D_starts_of hr (by decide) rfl (pa_cons (pe_fld (pv 0) rfl) pa_nil)) rfl)))))))))))), ?_⟩
    have hnt : ∀ xs, H p ≠ some (.tup xs) := fun xs z => by rw [hp0] at z; cases Option.some.inj z
    have hrl := R.len
    refine q_drop (ev_call (ea_cons (ev_var rfl) ea_nil) (sv_chA ha)) fun H1 e1 => ?_
    refine q_asgU (xs := rV rs) (eu_tupOfN (by
      have hg : given (rV rs).length (fun _ => true) (fun i => V.ref (rs.getD i 0)) = rV rs := by
        rw [List.length_map]
        exact given_map rs 0 V.ref _ (fun _ _ => rfl)
      rw [← hg]
      refine el_lcL (fun _ => true) _ (ev_var rfl) (sq_of (e1 _ _ hl)) (by rw [List.length_map, hrl]; omega) (fun _ => rfl) (fun i x H2 e2 hi => et_yes) (fun i x H2 e2 hi _ => ?_)
      obtain ⟨a, r, rfl, hrr, har⟩ := R.get hi
      have hi2 : rs[i]? = some a := by
        rw [List.getElem?_map] at hi
        cases z : rs[i]? with
        | none => rw [z] at hi; cases hi
        | some b => rw [z] at hi; cases Option.some.inj hi; rfl
      have hgd : rs.getD i 0 = a := by rw [List.getD_eq_getElem?_getD, hi2]; rfl
      rw [hgd]
      exact ev_tupOf (K := K) (ev_var rfl) (st_of (e2 _ _ (e1 _ _ har))))) fun k H2 nk e2 hk => ?_
    have e12 := e1.trans e2
    refine q_drop (ev_call (ea_cons (ev_var rfl) (ea_cons (ev_var rfl) ea_nil)) (sv_cr (K := K) (st_of hk) (R.ex e12) hpar nd hc hlen)) fun H3 e3 => ?_
    have hk3 := e3 _ _ hk
    refine q_when (b := !true || !(decide ((0 : Int) ≤ (at_ : Int)) && decide ((at_ : Int) ≤ ((rV rs).length : Int)))) (et_or (et_not (et_B (ev_call (ea_cons (ev_var rfl) ea_nil) sv_whole))) fun _ => et_not (et_chain ev_c (ev_var rfl) (ev_lenT (K := K) (ev_var rfl) (st_of hk3)) rv_I0 rv_I0)) (fun hb H4 e4 => ?_) (fun _ H4 e4 => ?_)
    · rw [List.length_map, hrl, decide_eq_true (by omega), decide_eq_true (by omega)] at hb
      exact absurd hb (by decide)
    have e14 := (e12.trans e3).trans e4
    have nkp : k ≠ p := fun z => by
      have := e1 _ _ hp0
      rw [z, this] at nk
      cases nk
    refine q_fld (ev_var rfl) (ev_var rfl) (e14 _ _ hp0) T.cut T.nCa (by decide) fun H5 e5 => ?_
    have B5 : But1 H (upd H5 p (.ins CC dx (putF "alphabet" (V.str (S abc)) []))) p := fun b o hb n => upd_Ne ((e14.trans e5) _ _ hb) n
    have hk5 : (upd H5 p (.ins CC dx (putF "alphabet" (V.str (S abc)) []))) k = some (.tup (rV rs)) := upd_Ne ((e3.trans (e4.trans e5)) _ _ hk) nkp
    generalize hF5 : putF "alphabet" (V.str (S abc)) ([] : List (Str × V)) = f5 at B5 hk5 ⊢
    have l5 : f5.length ≤ 1 := by rw [← hF5]; exact putF_len _ _ _
    have p5 : (upd H5 p (.ins CC dx f5)) p = some (.ins CC dx f5) := upd_same
    generalize upd H5 p (.ins CC dx f5) = G5 at B5 hk5 p5 ⊢
    refine q_fld (ev_var rfl) (ev_var rfl) p5 T.cut T.nCr (by omega) fun H6 e6 => ?_
    have B6 : But1 H (upd H6 p (.ins CC dx (putF "rows" (V.ref k) f5))) p := (B5.ex e6).upd
    have hk6 : (upd H6 p (.ins CC dx (putF "rows" (V.ref k) f5))) k = some (.tup (rV rs)) := upd_Ne (e6 _ _ hk5) nkp
    generalize hF6 : putF "rows" (V.ref k) f5 = f6 at B6 hk6 ⊢
    have l6 : f6.length ≤ 2 := by rw [← hF6]; exact Nat.le_trans (putF_len _ _ _) (by omega)
    have p6 : (upd H6 p (.ins CC dx f6)) p = some (.ins CC dx f6) := upd_same
    generalize upd H6 p (.ins CC dx f6) = G6 at B6 hk6 p6 ⊢
    refine q_fld (ev_var rfl) (ev_var rfl) p6 T.cut T.nCt (by omega) fun H7 e7 => ?_
    have B7 : But1 H (upd H7 p (.ins CC dx (putF "tail" (V.int (at_ : Int)) f6))) p := (B6.ex e7).upd
    have hk7 : (upd H7 p (.ins CC dx (putF "tail" (V.int (at_ : Int)) f6))) k = some (.tup (rV rs)) := upd_Ne (e7 _ _ hk6) nkp
    generalize hF7 : putF "tail" (V.int (at_ : Int)) f6 = f7 at B7 hk7 ⊢
    have l7 : f7.length ≤ 3 := by rw [← hF7]; exact Nat.le_trans (putF_len _ _ _) (by omega)
    have p7 : (upd H7 p (.ins CC dx f7)) p = some (.ins CC dx f7) := upd_same
    generalize upd H7 p (.ins CC dx f7) = G7 at B7 hk7 p7 ⊢
    refine q_fldN (en_u (eu_call (ea_cons (ev_var rfl) ea_nil) (su_pt (K := K) (st_of hk7) (R.but1 B7 hnt) hpar hlen))) (ev_var rfl) p7 T.cut T.nCp (by omega) fun q' H8 nq e8 hq => ?_
    have nqp : q' ≠ p := fun z => by rw [z, p7] at nq; cases nq
    have nqk : q' ≠ k := fun z => by rw [z, hk7] at nq; cases nq
    have B8 : But1 H (upd H8 p (.ins CC dx (putF "pieces" (V.ref q') f7))) p := (B7.ex e8).upd
    have hk8 : (upd H8 p (.ins CC dx (putF "pieces" (V.ref q') f7))) k = some (.tup (rV rs)) := upd_Ne (e8 _ _ hk7) nkp
    have hq8 : (upd H8 p (.ins CC dx (putF "pieces" (V.ref q') f7))) q' = some (.tup (sV (piF rows))) := upd_Ne hq nqp
    generalize hF8 : putF "pieces" (V.ref q') f7 = f8 at B8 hk8 hq8 ⊢
    have l8 : f8.length ≤ 4 := by rw [← hF8]; exact Nat.le_trans (putF_len _ _ _) (by omega)
    have lp8 : f8.lookup ("pieces" : Str) = some (.ref q') := by rw [← hF8, lookup_putF, if_pos rfl]
    have p8 : (upd H8 p (.ins CC dx f8)) p = some (.ins CC dx f8) := upd_same
    generalize upd H8 p (.ins CC dx f8) = G8 at B8 hk8 hq8 p8 ⊢
    have elen : ((rV rs).length : Int) = (rows.length : Int) := by rw [List.length_map, hrl]
    refine q_fld (ev_is (ev_lenT (K := K) (ev_var rfl) (st_of hk8)) (congrArg V.int elen)) (ev_var rfl) p8 T.cut T.nCm (by omega) fun H9 e9 => ?_
    have B9 : But1 H (upd H9 p (.ins CC dx (putF "many" (V.int (rows.length : Int)) f8))) p := (B8.ex e9).upd
    have hk9 : (upd H9 p (.ins CC dx (putF "many" (V.int (rows.length : Int)) f8))) k = some (.tup (rV rs)) := upd_Ne (e9 _ _ hk8) nkp
    have hq9 : (upd H9 p (.ins CC dx (putF "many" (V.int (rows.length : Int)) f8))) q' = some (.tup (sV (piF rows))) := upd_Ne (e9 _ _ hq8) nqp
    generalize hF9 : putF "many" (V.int (rows.length : Int)) f8 = f9 at B9 hk9 hq9 ⊢
    have l9 : f9.length ≤ 5 := by rw [← hF9]; exact Nat.le_trans (putF_len _ _ _) (by omega)
    have lp9 : f9.lookup ("pieces" : Str) = some (.ref q') := by rw [← hF9, lookup_putF, if_neg (by decide +kernel)]; exact lp8
    have p9 : (upd H9 p (.ins CC dx f9)) p = some (.ins CC dx f9) := upd_same
    generalize upd H9 p (.ins CC dx f9) = G9 at B9 hk9 hq9 p9 ⊢
    have hpl := piF_len rows
    have hflat : (piF rows).flatten = ((piF rows).tail).flatten := flat_cons (by omega) (piF_zero rows)
    have hjoin : ((piF rows).map List.length).sum ≤ 1000000 := by rw [sum_flat, hflat]; omega
    refine q_fld (v := .str (S (((piF rows).tail).flatten ++ (piF rows).getD at_ []))) (ev_op (ev_is (ev_joinT (K := K) (ev_is ev_c rfl) (ev_fld (ev_var rfl) p9 T.cut T.nCp lp9) (st_of hq9) hjoin) (by rw [hflat])) (ev_op (ev_fld (ev_var rfl) p9 T.cut T.nCp lp9) (ev_var rfl) (rv_ixT (K := K) (st_of hq9) (at_sV (by omega)))) (rv_addS (by omega))) (ev_var rfl) p9 T.cut T.nCx (by omega) fun H10 e10 => ?_
    have B10 : But1 H (upd H10 p (.ins CC dx (putF "text" (V.str (S (((piF rows).tail).flatten ++ (piF rows).getD at_ []))) f9))) p := (B9.ex e10).upd
    have hk10 : (upd H10 p (.ins CC dx (putF "text" (V.str (S (((piF rows).tail).flatten ++ (piF rows).getD at_ []))) f9))) k = some (.tup (rV rs)) := upd_Ne (e10 _ _ hk9) nkp
    have hq10 : (upd H10 p (.ins CC dx (putF "text" (V.str (S (((piF rows).tail).flatten ++ (piF rows).getD at_ []))) f9))) q' = some (.tup (sV (piF rows))) := upd_Ne (e10 _ _ hq9) nqp
    generalize hF10 : putF "text" (V.str (S (((piF rows).tail).flatten ++ (piF rows).getD at_ []))) f9 = f10 at B10 hk10 hq10 ⊢
    have l10 : f10.length ≤ 6 := by rw [← hF10]; exact Nat.le_trans (putF_len _ _ _) (by omega)
    have lp10 : f10.lookup ("pieces" : Str) = some (.ref q') := by rw [← hF10, lookup_putF, if_neg (by decide +kernel)]; exact lp9
    have p10 : (upd H10 p (.ins CC dx f10)) p = some (.ins CC dx f10) := upd_same
    generalize upd H10 p (.ins CC dx f10) = G10 at B10 hk10 hq10 p10 ⊢
    have hshort : ∀ pc ∈ piF rows, pc.length ≤ 6000 := fun pc hm => by
      obtain ⟨i, hi, e⟩ := List.mem_iff_getElem.mp hm
      have := piF_short hpar i (by omega)
      rw [List.getD_eq_getElem?_getD, List.getElem?_eq_getElem hi] at this
      have this2 : ((piF rows)[i]).length ≤ i := this
      rw [e] at this2
      omega
    refine s_fldN (en_u (eu_call (ea_cons (ev_fld (ev_var rfl) p10 T.cut T.nCp lp10) ea_nil) (su_so (K := K) (st_of hq10) (by omega) (by omega) hshort))) (ev_var rfl) p10 T.cut T.nCs (by omega) fun t' H11 nt e11 ht => ?_
    have ntp : t' ≠ p := fun z => by rw [z, p10] at nt; cases nt
    have B11 : But1 H (upd H11 p (.ins CC dx (putF "starts" (V.ref t') f10))) p := (B10.ex e11).upd
    refine q _ ⟨dx, k, q', t', rs, _, upd_same, ?_, ?_, ?_, ?_, ?_, ?_, ?_, upd_Ne (e11 _ _ hk10) nkp, R.but1 B11 hnt, upd_Ne (e11 _ _ hq10) nqp, upd_Ne ht ntp⟩ B11
    all_goals (rw [← hF10, ← hF9, ← hF8, ← hF7, ← hF6, ← hF5]; (repeat first | rw [lookup_putF, if_neg (by decide +kernel)] | rw [lookup_putF, if_pos rfl]))
abbrev s_cut_of : Stmt := top 26
abbrev N_cut_of : List Str := ["alphabet", "text", "growth"]
theorem sc_cut_of : FnScope N_cut_of ["alphabet", "text"] (defScope s_cut_of) := ⟨rfl, rfl, rfl, by decide +kernel, rfl, by decide +kernel, by decide +kernel⟩
def spCutOf (CC : Addr) : Sp := fun vs H Q _ => ∃ abc text : List Nat, vs = [.str (S abc), .str (S text)] ∧ AbcOk abc ∧ (∀ c ∈ text, c ∈ abc) ∧ text.length ≤ 4000 ∧ ∀ (p : Addr) (H' : Hp), H p = none → Ex H H' → CutAt CC H' p abc (cutC text).1 (cutC text).2 → Q (.ref p) H'
theorem cutC_len (text : List Nat) : (cutC text).1.length ≤ text.length := by
  induction text using snoc_ind with
  | h0 => exact Nat.le_refl _
  | hs l a ih =>
    have := stepC_len (cutC l) a
    rw [cutC_snoc, List.length_append]
    show _ ≤ l.length + 1
    omega
theorem ok_cut_of (D_check_alphabet : Dn P w K mg base 2 "check_alphabet" s_check_alphabet ["alphabet"] spChA) (D_check_text : Dn P w K mg base 1 "check_text" s_check_text ["alphabet", "text"] spChT) (D_Growth_init : DnI P w K mg base 1 CG ["self"] (spGI CG)) (D_Growth_read : DnM P w K mg base 2 CG "read" ["self", "text"] (spRead CG))
    (D_Cut_init : DnI P w K mg base 3 CC ["self", "alphabet", "rows", "tail"] (spCI K CC)) (T : TC K mg CG CC) (F : At K mg "cut_of" s_cut_of) : Dn P w K mg base 5 "cut_of" s_cut_of ["alphabet", "text"] (spCutOf CC) := by
  refine dn_ok F sc_cut_of (fun _ _ _ _ _ _ us hl => match us, hl with | [_, _], _ => rfl) (fun vs H Q E h => ?_) (fun f cdv A outer t H vs Q E hr h => ?_)
  · obtain ⟨abc, text, rfl, _⟩ := h; rfl
  · obtain ⟨abc, text, rfl, ha, htx, hlen, q⟩ := h
    refine ⟨_, (pss_cons (ps_expr (pe_dn D_check_alphabet hr (by decide) rfl (pa_cons (pv 0) pa_nil)))
      (pss_cons (ps_expr (pe_dn D_check_text hr (by decide) rfl (pa_cons (pv 0) (pa_cons (pv 1) pa_nil))))
      (pss_cons (ps_set (i := 2) sc_cut_of.nd rfl (Or.inl rfl) (pe_di0 D_Growth_init hr (by decide) rfl T.mGrowth))
      (pss_cons (ps_expr (pe_dm D_Growth_read hr (by decide) T.growth (pv 2) (pa_cons (pv 1) pa_nil)))
      (pss_one (ps_ret (pe_di D_Cut_init hr (by decide) rfl T.mCut (pa_cons (pv 0) (pa_cons (pe_fld (pv 2) rfl) (pa_cons (pe_fld (pv 2) rfl) pa_nil)))))))))), ?_⟩
    refine q_drop (ev_call (ea_cons (ev_var rfl) ea_nil) (sv_chA ha)) fun H1 e1 => ?_
    refine q_drop (ev_call (ea_cons (ev_var rfl) (ea_cons (ev_var rfl) ea_nil)) (sv_chT htx)) fun H2 e2 => ?_
    have e12 := e1.trans e2
    intro x dx nx ndx nex
    refine ⟨x, dx, rfl, upd_same, fun l d H3 nl nd G keep => ⟨rfl, ?_⟩⟩
    have e3 : Ex H H3 := fun b o hb => by
      have hb2 := e12 _ _ hb
      have n1 : b ≠ x := fun z => by rw [z, nx] at hb2; cases hb2
      have n2 : b ≠ dx := fun z => by rw [z, ndx] at hb2; cases hb2
      exact keep b o (upd_Ne (upd_Ne hb2 n2) n1) n1
    have hl0 : H l = none := by
      cases z : H l with
      | none => rfl
      | some o =>
        have hb2 := e12 _ _ z
        have n1 : l ≠ x := fun z2 => by rw [z2, nx] at hb2; cases hb2
        have n2 : l ≠ dx := fun z2 => by rw [z2, ndx] at hb2; cases hb2
        have := upd_Ne (o := HO.ins CG dx []) (upd_Ne (o := HO.own x) hb2 n2) n1
        rw [this] at nl; cases nl
    have hd0 : H d = none := by
      cases z : H d with
      | none => rfl
      | some o =>
        have hb2 := e12 _ _ z
        have n1 : d ≠ x := fun z2 => by rw [z2, nx] at hb2; cases hb2
        have n2 : d ≠ dx := fun z2 => by rw [z2, ndx] at hb2; cases hb2
        have := upd_Ne (o := HO.ins CG dx []) (upd_Ne (o := HO.own x) hb2 n2) n1
        rw [this] at nd; cases nd
    have hx0 : H x = none := fresh_back e12 nx
    obtain ⟨dx', fs, hpx, _, _, _, nm, _⟩ := G.ob
    refine ⟨.ref x, rfl, x, dx', fs, rfl, hpx, nm.1, .str (S text), rfl, ?_⟩
    refine ⟨x, l, d, [], [], 0, text, rfl, G, by show 0 + text.length < 5000; omega, fun v rs' H4 G4 B4 => ?_⟩
    have hcut : text.foldl stepC ([], 0) = cutC text := rfl
    rw [hcut] at G4
    have e4 : Ex H H4 := fun b o hb => B4 b o (e3 _ _ hb) (fun z => by rw [z, hx0] at hb; cases hb) (fun z => by rw [z, hl0] at hb; cases hb) (fun z => by rw [z, hd0] at hb; cases hb)
    obtain ⟨dx4, fs4, hp4, fr, fa, _, _, _⟩ := G4.ob
    have hA : EvA (tCons (tVar 0) (tCons (tFld K (tVar 2) "rows") (tCons (tFld K (tVar 2) "at") tNil))) [some (.str (S abc)), some (.str (S text)), some (.ref x)] H4 [.str (S abc), .ref l, .int ((cutC text).2 : Int)] := ea_cons (ev_var rfl) (ea_cons (ev_fld (ev_var rfl) hp4 T.growth T.nGr fr) (ea_cons (ev_fld (ev_var rfl) hp4 T.growth T.nGa fa) ea_nil))
    refine s_retMake hA fun H5 e5 y dy ny ndy ney => ?_
    have C := cutOk text
    have hcl := cutC_len text
    have hj := congrArg List.length C.joined
    rw [List.length_append] at hj
    have e45 := e4.trans e5
    have e6 : ∀ b o, H5 b = some o → (upd (upd H5 dy (.own y)) y (.ins CC dy [])) b = some o := fun b o hb => by
      have n1 : b ≠ y := fun z => by rw [z, ny] at hb; cases hb
      have n2 : b ≠ dy := fun z => by rw [z, ndy] at hb; cases hb
      exact upd_Ne (upd_Ne hb n2) n1
    refine ⟨y, dy, l, abc, rs', (cutC text).1, (cutC text).2, rfl, upd_same, e6 _ _ (e5 _ _ G4.ls), (G4.rw_.ex e5).ex e6, ha, C.par, C.nd, fun r hr => ?_, by omega, C.at_le, by omega, fun H7 C7 B7 => ⟨rfl, ?_⟩⟩
    · obtain ⟨i, hi, e⟩ := List.mem_iff_getElem.mp hr
      exact htx _ (C.let_ i r (by rw [List.getElem?_eq_getElem hi, e]))
    · refine q y H7 (fresh_back e45 ny) (fun b o hb => B7 b o (e6 _ _ (e45 _ _ hb)) (fun z => ?_)) C7
      have := e45 _ _ hb
      rw [z, ny] at this
      cases this
end
end My

set_option Elab.async false
set_option linter.all false
set_option maxRecDepth 100000
set_option maxHeartbeats 4000000
namespace My
open PySem PySem.Spec PyProof.Rows L2 Evl
open SX (S S_len S_cat S_beq S_beq_eq S_inj S_tl)

/-! ### letters that come from a text -/
def Sub (m l : List Nat) : Prop := ∀ c ∈ m, c ∈ l
theorem Sub.refl (l : List Nat) : Sub l l := fun _ h => h
theorem Sub.nil (l : List Nat) : Sub [] l := fun _ h => absurd h List.not_mem_nil
theorem Sub.one {c : Nat} {l : List Nat} (h : c ∈ l) : Sub [c] l := fun d hd => by rw [List.mem_singleton.mp hd]; exact h
theorem Sub.app {a b l : List Nat} (h1 : Sub a l) (h2 : Sub b l) : Sub (a ++ b) l := fun c hc => (List.mem_append.mp hc).elim (h1 c) (h2 c)
theorem Sub.trans {a b l : List Nat} (h1 : Sub a b) (h2 : Sub b l) : Sub a l := fun c hc => h2 c (h1 c hc)
theorem Sub.cut (a : List Nat) (lo hi : Option Int) : Sub (cutL a lo hi) a := fun c hc => List.mem_of_mem_drop (List.mem_of_mem_take hc)
theorem Sub.rep {a l : List Nat} (n : Nat) (h : Sub a l) : Sub (List.replicate n a).flatten l := fun c hc => by
  obtain ⟨b, hb, hcb⟩ := List.mem_flatten.mp hc
  rw [(List.mem_replicate.mp hb).2] at hcb
  exact h c hcb
theorem Sub.flat {g : Nat → List Nat} {l : List Nat} {n : Nat} (h : ∀ i, i < n → Sub (g i) l) : Sub ((List.range n).map g).flatten l := fun c hc => by
  obtain ⟨b, hb, hcb⟩ := List.mem_flatten.mp hc
  obtain ⟨i, hi, rfl⟩ := List.mem_map.mp hb
  exact h i (List.mem_range.mp hi) c hcb
/-! ### sorted letters -/
theorem rising_pair : ∀ (x : Nat) (cs : List Nat), risingS (S [x]) (cs.map fun c => S [c]) = true → (∀ c ∈ cs, x ≤ c) ∧ cs.Pairwise (· ≤ ·)
  | x, [], _ => ⟨fun _ h => absurd h List.not_mem_nil, .nil⟩
  | x, c :: cs, h => by
    have h1 : (!ltCps (S [c]).cps.toList (S [x]).cps.toList && risingS (S [c]) (cs.map fun c => S [c])) = true := h
    rw [Bool.and_eq_true] at h1
    obtain ⟨h2, h3⟩ := h1
    obtain ⟨a, b⟩ := rising_pair c cs h3
    have hxc : x ≤ c := by
      rw [ltCps_eq, Bool.not_eq_true', decide_eq_false_iff_not] at h2
      refine Nat.le_of_not_lt fun z => h2 ?_
      show [c] < [x]
      exact List.cons_lt_cons_iff.mpr (Or.inl z)
    refine ⟨fun d hd => ?_, List.Pairwise.cons a b⟩
    rcases List.mem_cons.mp hd with rfl | hd
    · exact hxc
    · exact Nat.le_trans hxc (a d hd)
theorem sorted_pair {cs : List Nat} (h : sortedS (cs.map fun c => S [c]) = true) : cs.Pairwise (· ≤ ·) := by
  cases cs with
  | nil => exact .nil
  | cons c cs =>
    obtain ⟨a, b⟩ := rising_pair c cs h
    exact List.Pairwise.cons a b
theorem flat_ones (cs : List Nat) : (cs.map fun c => [c]).flatten = cs := by
  induction cs with
  | nil => rfl
  | cons c cs ih => rw [List.map_cons, List.flatten_cons, ih]; rfl
/-- ''.join(sorted(xs)), the items letters -/
theorem ev_joinLetters {K : PySem.W.Frag} {σ : L2.St} {H : Hp} {ta tb : TE} {p : Addr} {cs : List Nat} {Q : VK} (ho : Ev ta σ H (.str (S []))) (hb : Ev tb σ H (.ref p)) (h : SqL K H p (sV (cs.map fun c => [c]))) (h64 : cs.length < 64)
    (q : ∀ (l : List Nat) H2, l.Perm cs → l.Pairwise (· ≤ ·) → Ex H H2 → Q (.str (S l)) H2) : (tM1 (rJoin K) ta (tCB (rSortedS K) (tCons tb tNil))) σ H Q :=
  ho H (Ex.refl H) _ fun H1 e1 => ⟨⟨_, rfl⟩, hb H1 e1 _ fun H2 e2 => ⟨p, cs.map fun c => S [c], rfl, by
    have e : (cs.map fun c => S [c]).map V.str = sV (cs.map fun c => [c]) := by simp [sV, List.map_map, Function.comp_def]
    rw [e]
    exact ex_l (e1.trans e2) h, by rw [List.length_map]; exact h64, fun ys d perm srt hd => by
    obtain ⟨l, hl, rfl⟩ : ∃ l : List Nat, l.Perm cs ∧ ys = l.map fun c => S [c] := by
      refine ⟨ys.map fun y => y.cps.toList.headD 0, ?_, ?_⟩
      · have := perm.map fun y => y.cps.toList.headD 0
        rw [List.map_map] at this
        have e : (List.map ((fun y : Str => y.cps.toList.headD 0) ∘ fun c => S [c]) cs) = cs := by
          refine (List.map_congr_left fun c _ => ?_).trans (List.map_id cs)
          rfl
        rw [e] at this
        exact this
      · rw [List.map_map]
        refine (List.map_id ys).symm.trans (List.map_congr_left fun y hy => ?_)
        obtain ⟨c, _, rfl⟩ := List.mem_map.mp (perm.mem_iff.mp hy)
        rfl
    have hlen : l.length = cs.length := hl.length_eq
    refine ⟨S [], d, l.map fun c => S [c], rfl, rfl, Or.inl (sq_of upd_same), ?_, ?_⟩
    · have e : (S ([] : List Nat)).length = 0 := rfl
      have e2' : ∀ l : List Nat, ((l.map fun c => S [c]).map (·.length)).sum = l.length := by
        intro l
        induction l with
        | nil => rfl
        | cons c l ih => rw [List.map_cons, List.map_cons, List.sum_cons, ih, List.length_cons]; show 1 + _ = _; omega
      rw [e, Nat.mul_zero, e2']
      omega
    · have e3 : (l.map fun c => S [c]) = (l.map fun c => [c]).map S := by rw [List.map_map]; rfl
      rw [e3, SX.join_S, joinL_nil, flat_ones]
      exact q l _ hl (sorted_pair srt) ((e1.trans e2).trans (Ex.new hd))⟩⟩
theorem L36c_len : L36c.length = 36 := by decide +kernel
theorem L36c_nodup : L36c.Nodup := by decide +kernel
theorem at_L36 {H : Hp} {i : Int} (h0 : 0 ≤ i) (h1 : i < 36) : RV rIxS (.str LETS) (.int i) H (.str (S [L36c.getD i.toNat 0])) := by
  have e : LETS.cps.toList = L36c := rfl
  refine rv_ixS (by decide +kernel) ?_
  rw [e]
  obtain ⟨j, rfl⟩ : ∃ j : Nat, i = (j : Int) := ⟨i.toNat, by omega⟩
  rw [Int.toNat_natCast, List.getD_eq_getElem?_getD]
  have hj : j < L36c.length := by rw [L36c_len]; omega
  rw [List.getElem?_eq_getElem hj]
  exact atI_nat (List.getElem?_eq_getElem hj)
theorem in_sV {ls : List Nat} (c : Nat) : inV (.str (S [c])) (sV (ls.map fun c => [c])) = decide (c ∈ ls) := by
  unfold inV
  induction ls with
  | nil => rfl
  | cons a ls ih =>
    have e0 : sV ((a :: ls).map fun c => [c]) = .str (S [a]) :: sV (ls.map fun c => [c]) := rfl
    rw [e0, List.any_cons, ih]
    have e : eqV (.str (S [a])) (.str (S [c])) = (S [a] == S [c]) := rfl
    rw [e, S_beq]
    by_cases h : a = c
    · subst h; simp
    · have h2 : ¬ c = a := fun z => h z.symm
      simp [h, h2]
/-- six letters in a row around the 36 can't all be among five -/
theorem walk_free {ls : List Nat} {a : Nat} (hl : ls.length ≤ 5) (h : ∀ t, t < 6 → L36c.getD ((a + t) % 36) 0 ∈ ls) : False := by
  have hsub : ((List.range 6).map fun t => L36c.getD ((a + t) % 36) 0) ⊆ ls := fun c hc => by
    obtain ⟨t, ht, rfl⟩ := List.mem_map.mp hc
    exact h t (List.mem_range.mp ht)
  have hnd : ((List.range 6).map fun t => L36c.getD ((a + t) % 36) 0).Nodup := by
    rw [List.nodup_iff_pairwise_ne, List.pairwise_map]
    refine List.Pairwise.imp_of_mem (fun {x y} hx hy hxy => ?_) (List.nodup_iff_pairwise_ne.mp List.nodup_range)
    intro e
    have hx6 := List.mem_range.mp hx
    have hy6 := List.mem_range.mp hy
    have h1 : (a + x) % 36 < L36c.length := by rw [L36c_len]; exact Nat.mod_lt _ (by decide)
    have h2 : (a + y) % 36 < L36c.length := by rw [L36c_len]; exact Nat.mod_lt _ (by decide)
    rw [List.getD_eq_getElem?_getD, List.getElem?_eq_getElem h1, List.getD_eq_getElem?_getD, List.getElem?_eq_getElem h2] at e
    have := nodup_idx L36c_nodup h1 h2 e
    omega
  have := hnd.length_le_of_subset hsub
  rw [List.length_map, List.length_range] at this
  omega
section
variable {P : Program} {w : World} {K : PySem.W.Frag} {mg : Str → Option Value} {base : Heap}
/-! ### _law_whole -/
abbrev s_law_whole : Stmt := top 31
abbrev N_law_whole : List Str := ["value"]
theorem sc_law_whole : FnScope N_law_whole ["value"] (defScope s_law_whole) := ⟨rfl, rfl, rfl, by decide +kernel, rfl, by decide +kernel, by decide +kernel⟩
theorem ok_law_whole (T : TT mg) (F : At K mg "_law_whole" s_law_whole) : Dn P w K mg base 1 "_law_whole" s_law_whole ["value"] spWhole := by
  refine dn_ok F sc_law_whole (fun _ _ _ _ _ _ us hl => match us, hl with | [_], _ => rfl) (fun vs H Q E h => ?_) (fun f cdv A outer s H vs Q E hr h => ?_)
  · obtain ⟨m, rfl, _⟩ := h; rfl
  · obtain ⟨m, rfl, q⟩ := h
    refine ⟨_, (pss_one (ps_ret (pe_and (pe_callB call_isi (by rfl) T.isinstance (by decide +kernel) (pa_cons (pv 0) (pa_cons (pe_tyn "int" rfl T.int_ (by decide +kernel)) pa_nil))) (pe_one (pe_not (pe_callB call_isi (by rfl) T.isinstance (by decide +kernel) (pa_cons (pv 0) (pa_cons (pe_tyn "bool" rfl T.bool_ (by decide +kernel)) pa_nil)))))))), ?_⟩
    exact s_ret (v := .bl (true && !false)) (ev_andV (ev_isi (ev_var rfl) ev_c (ClsV.ty "int") (fun _ _ => .base (.int m)) kit_int_int) fun _ => ev_notV (ev_isi (ev_var rfl) ev_c (ClsV.ty "bool") (fun _ _ => .base (.int m)) kit_int_bool)) fun H1 e => q H1 e
/-! ### _law_cell -/
abbrev s_law_cell : Stmt := top 32
abbrev N_law_cell : List Str := ["script", "k", "seed", "cell"]
theorem sc_law_cell : FnScope N_law_cell ["script", "k"] (defScope s_law_cell) := ⟨rfl, rfl, rfl, by decide +kernel, rfl, by decide +kernel, by decide +kernel⟩
theorem ok_law_cell (T : TT mg) (F : At K mg "_law_cell" s_law_cell) : Dn P w K mg base 1 "_law_cell" s_law_cell ["script", "k"] (spCellF K) := by
  refine dn_ok F sc_law_cell (fun _ _ _ _ _ _ us hl => match us, hl with | [_, _], _ => rfl) (fun vs H Q E h => ?_) (fun f cdv A outer s H vs Q E hr h => ?_)
  · obtain ⟨a, ns, k, rfl, _⟩ := h; rfl
  · obtain ⟨a, ns, k, rfl, hS, hk, hk2, q⟩ := h
    refine ⟨_, (pss_cons (ps_if (pt_cmpR op_lt (pv 1) (pe_callB call_len_seq (by rfl) T.len boot_len (pa_cons (pv 0) pa_nil)) (nomark _)) (pss_one (ps_ret (pe_ix ix_list (pv 0) (pv 1) (fun _ _ => rfl)))) pss_nil)
      (pss_cons (ps_set (i := 2) sc_law_cell.nd rfl (Or.inl rfl) pe_int)
      (pss_cons (ps_for PassesOwn.never rfl (pi_list (pv 0)) (pg_name (i := 3) sc_law_cell.nd rfl (Or.inl rfl))
        (pss_one (ps_set (i := 2) sc_law_cell.nd rfl (Or.inl rfl) (pe_op op_mod (pe_callTy call_int1 (by rfl) T.int_ (by decide +kernel) (pa_cons (pe_op op_add (pe_op op_mul (pv 2) pe_int) (pe_op op_mod (pe_callTy call_int1 (by rfl) T.int_ (by decide +kernel) (pa_cons (pv 3) pa_nil)) pe_int)) pa_nil)) pe_int))))
      (pss_one (ps_ret (pe_op op_mod (pe_callTy call_int1 (by rfl) T.int_ (by decide +kernel) (pa_cons (pe_op op_mul (pe_op op_mul (pe_op op_add (pv 2) pe_int) (pe_op op_add (pv 1) pe_int)) pe_int) pa_nil)) pe_int)))))), ?_⟩
    refine q_when (et_test (ev_op (ev_var rfl) (ev_len (ev_var rfl) hS) rv_I0)) (fun hb H1 e1 => ?_) (fun hb H1 e1 => ?_)
    · have hlt : k < (ns.length : Int) := by
        have := of_decide_eq_true hb
        rw [List.length_map] at this
        exact this
      have hv : cellF ns k = ns.getD k.toNat 0 := if_pos hlt
      rw [hv] at q
      have hg : ns[k.toNat]? = some (ns.getD k.toNat 0) := by
        rw [List.getD_eq_getElem?_getD, List.getElem?_eq_getElem (by omega)]; rfl
      exact s_ret (ev_op (ev_var rfl) (ev_var rfl) (rv_ixL (ex_l e1 hS) (at_map hk hg))) fun H2 e2 => q H2 (e1.trans e2)
    · have hge : ¬ k < (ns.length : Int) := by
        have := of_decide_eq_false hb
        rw [List.length_map] at this
        exact this
      have hv : cellF ns k = ((seedF ns + 7) * (k + 3) * 69621) % 2147483647 := if_neg hge
      rw [hv] at q
      refine q_asg ev_c fun H2 e2 => ?_
      refine q_forLn (ev_var rfl) (ex_l (e1.trans e2) hS) (fun i σ' H' => ∃ (sd : Int) (v : Option V), σ' = [some (.ref a), some (.int k), some (.int sd), v] ∧ Ex H H' ∧ 0 ≤ sd ∧ sd < 1000003 ∧ (ns.drop i).foldl (fun s c => (s * 31 + c % 1000003) % 1000003) sd = seedF ns)
        (fun H3 e3 => ⟨17, none, rfl, (e1.trans e2).trans e3, by decide, by decide, rfl⟩) (fun i σ' H' _ ⟨_, _, _, e, _⟩ => ex_l e hS) ?_ ?_
      · rintro i x σ' H' hx ⟨sd, v, rfl, e, h0, h1, hf⟩
        obtain ⟨z, hz, rfl⟩ := get_map hx
        rw [drop_get hz, List.foldl_cons] at hf
        refine s_asg (ev_op (ev_int (ev_op (ev_op (ev_var rfl) ev_c (rv_I (by unfold CMul; omega))) (ev_op (ev_int (ev_var rfl)) ev_c (rv_I (by decide))) rv_I0)) ev_c (rv_I (by decide))) fun H4 e4 => ?_
        exact ⟨_, _, rfl, e.trans e4, Int.emod_nonneg _ (by decide), Int.emod_lt_of_pos _ (by decide), hf⟩
      · rintro σ' H' ⟨sd, v, rfl, e, h0, h1, hf⟩
        rw [List.length_map, List.drop_length] at hf
        have hsd : sd = seedF ns := hf
        subst hsd
        exact s_ret (ev_op (ev_int (ev_op (ev_op (ev_op (ev_var rfl) ev_c rv_I0) (ev_op (ev_var rfl) ev_c rv_I0) (rv_I (by unfold CMul; omega))) ev_c (rv_I (by unfold CMul; omega)))) ev_c (rv_I (by decide))) fun H4 e4 => q H4 (e.trans e4)
/-! ### _law_digits -/
abbrev s_law_digits : Stmt := top 33
abbrev N_law_digits : List Str := ["cell", "sizes", "row", "rest", "seed", "k", "size", "twice"]
theorem sc_law_digits : FnScope N_law_digits ["cell", "sizes"] (defScope s_law_digits) := ⟨rfl, rfl, rfl, by decide +kernel, rfl, by decide +kernel, by decide +kernel⟩
theorem ok_law_digits (T : TT mg) (F : At K mg "_law_digits" s_law_digits) : Dn P w K mg base 1 "_law_digits" s_law_digits ["cell", "sizes"] (spDigits K) := by
  refine dn_ok F sc_law_digits (fun _ _ _ _ _ _ us hl => match us, hl with | [_, _], _ => rfl) (fun vs H Q E h => ?_) (fun f cdv A outer s H vs Q E hr h => ?_)
  · obtain ⟨c, b, ss, rfl, _⟩ := h; rfl
  · obtain ⟨c, b, ss, rfl, hS, ⟨hlen, hss⟩, q⟩ := h
    refine ⟨_, (pss_cons (ps_set (i := 2) sc_law_digits.nd rfl (Or.inl rfl) (pe_lst pa_nil))
      (pss_cons (ps_set (i := 3) sc_law_digits.nd rfl (Or.inl rfl) (pe_callTy call_int1 (by rfl) T.int_ (by decide +kernel) (pa_cons (pv 0) pa_nil)))
      (pss_cons (ps_if (pt_cmpR op_ge (pv 3) (pe_op op_pow pe_int pe_int) (nomark _)) (pss_cons (ps_set (i := 3) sc_law_digits.nd rfl (Or.inl rfl) (pe_op op_sub (pv 3) (pe_op op_pow pe_int pe_int)))
        (pss_cons (ps_for PassesOwn.never rfl (pi_list (pv 1)) (pg_name (i := 6) sc_law_digits.nd rfl (Or.inl rfl))
          (pss_cons (ps_expr (pe_bm PySem.F.plainAttrs_list PySem.F.slot_list_append PySem.F.type_list_append mt_append (pv 2) (pa_cons (pe_op op_mod (pe_callTy call_int1 (by rfl) T.int_ (by decide +kernel) (pa_cons (pv 3) pa_nil)) (pv 6)) pa_nil)))
            (pss_one (ps_set (i := 3) sc_law_digits.nd rfl (Or.inl rfl) (pe_op op_fdivW (pe_callTy call_int1 (by rfl) T.int_ (by decide +kernel) (pa_cons (pv 3) pa_nil)) (pv 6))))))
        (pss_one (ps_ret (pv 2))))) pss_nil)
      (pss_cons (ps_set (i := 4) sc_law_digits.nd rfl (Or.inl rfl) (pe_op op_mod (pe_callTy call_int1 (by rfl) T.int_ (by decide +kernel) (pa_cons (pv 3) pa_nil)) pe_int))
      (pss_cons (ps_for PassesOwn.never rfl (pi_range1 (by rfl) T.range (pa_cons (pe_callB call_len_seq (by rfl) T.len boot_len (pa_cons (pv 1) pa_nil)) pa_nil)) (pg_name (i := 5) sc_law_digits.nd rfl (Or.inl rfl))
        (pss_cons (ps_set (i := 4) sc_law_digits.nd rfl (Or.inl rfl) (pe_op op_mod (pe_callTy call_int1 (by rfl) T.int_ (by decide +kernel) (pa_cons (pe_op op_add (pe_op op_add (pe_op op_mul (pv 4) pe_int) (pe_op op_mul pe_int (pv 5))) pe_int) pa_nil)) pe_int))
          (pss_cons (ps_set (i := 7) sc_law_digits.nd rfl (Or.inl rfl) (pe_op op_mod (pe_callTy call_int1 (by rfl) T.int_ (by decide +kernel) (pa_cons (pe_op op_mul (pv 4) (pe_op op_add (pe_op op_fdiv (pv 4) pe_int) pe_int)) pa_nil)) pe_int))
          (pss_one (ps_expr (pe_bm PySem.F.plainAttrs_list PySem.F.slot_list_append PySem.F.type_list_append mt_append (pv 2) (pa_cons (pe_op op_mod (pe_op op_fdiv (pv 7) pe_int) (pe_ix ix_list (pv 1) (pv 5) (fun _ _ => rfl))) pa_nil)))))))
      (pss_one (ps_ret (pv 2)))))))), ?_⟩
    have e18 : (10 : Int) ^ (Int.toNat 18) = 1000000000000000000 := by decide
    have c18 : CPow 10 18 := by unfold CPow; decide
    refine q_asgL (el_lst ea_nil (by decide)) fun l H1 nl e1 h1 => ?_
    refine q_asg (ev_int (ev_var rfl)) fun H2 e2 => ?_
    refine q_when (et_test (ev_op (ev_var rfl) (ev_op ev_c ev_c (rv_I c18)) rv_I0)) (fun hb H3 e3 => ?_) (fun hb H3 e3 => ?_)
    · have hge : 1000000000000000000 ≤ c := by
        have := of_decide_eq_true hb
        rw [e18] at this
        exact this
      have hv : digitsF c ss = digA (c - 1000000000000000000) ss := if_pos hge
      rw [hv] at q
      refine q_asg (ev_op (ev_var rfl) (ev_op ev_c ev_c (rv_I c18)) rv_I0) fun H4 e4 => ?_
      have e14 : Ex H H4 := ((e1.trans e2).trans e3).trans e4
      refine q_forLn (ev_var rfl) (ex_l e14 hS) (fun i σ' H' => ∃ (r : Int) (done : List Int) (v : Option V), σ' = [some (.int c), some (.ref b), some (.ref l), some (.int r), none, none, v, none] ∧ Ex H H' ∧ H' l = some (.lst (done.map V.int)) ∧ done.length = i ∧ done ++ digA r (ss.drop i) = digA (c - 1000000000000000000) ss)
        (fun H5 e5 => ⟨_, [], none, rfl, e14.trans e5, e5 l _ (e4 l _ (e3 l _ (e2 l _ h1))), rfl, by rw [e18]; rfl⟩) (fun i σ' H' _ ⟨_, _, _, _, e, _⟩ => ex_l e hS) ?_ ?_
      · rintro i x σ' H' hx ⟨r, done, v, rfl, e, hl, hd, hf⟩
        obtain ⟨z, hz, rfl⟩ := get_map hx
        have hi := (List.getElem?_eq_some_iff.mp hz).1
        obtain ⟨z0, z1⟩ := hss z (List.mem_of_getElem? hz)
        rw [drop_get hz] at hf
        refine q_app hl (ev_var rfl) (ev_op (ev_int (ev_var rfl)) (ev_var rfl) (rv_I z0)) (by rw [List.length_map]; omega) fun H5 e5 => ?_
        refine s_asg (ev_op (ev_int (ev_var rfl)) (ev_var rfl) (rv_I (divw z0 z1))) fun H6 e6 => ?_
        refine ⟨r / z, done ++ [r % z], _, rfl, (Ex.mut (e.trans e5) nl).trans e6, ?_, by rw [List.length_append]; simp [hd], ?_⟩
        · rw [List.map_append]
          exact e6 l _ upd_same
        · rw [List.append_assoc]
          exact hf
      · rintro σ' H' ⟨r, done, v, rfl, e, hl, hd, hf⟩
        rw [List.length_map, List.drop_length] at hf
        have hf2 : done = digA (c - 1000000000000000000) ss := by rw [← hf]; simp [digA]
        subst hf2
        exact s_ret (ev_var rfl) fun H5 e5 => q l H5 nl (e.trans e5) (e5 l _ hl)
    · have hlt : ¬ 1000000000000000000 ≤ c := by
        have := of_decide_eq_false hb
        rw [e18] at this
        exact this
      have hv : digitsF c ss = digB (c % 2147483629) 0 ss := if_neg hlt
      rw [hv] at q
      refine q_asg (ev_op (ev_int (ev_var rfl)) ev_c (rv_I (by decide))) fun H4 e4 => ?_
      have e14 : Ex H H4 := ((e1.trans e2).trans e3).trans e4
      refine q_forR1 (ea_cons (ev_len (ev_var rfl) (ex_l e14 hS)) ea_nil) ⟨by omega, by rw [List.length_map]; omega⟩ (fun i σ' H' => ∃ (sd : Int) (done : List Int) (v u : Option V), σ' = [some (.int c), some (.ref b), some (.ref l), some (.int c), some (.int sd), v, none, u] ∧ Ex H H' ∧ H' l = some (.lst (done.map V.int)) ∧ done.length = i ∧ 0 ≤ sd ∧ sd < 2147483647 ∧ done ++ digB sd i (ss.drop i) = digB (c % 2147483629) 0 ss)
        (fun H5 e5 => ⟨_, [], none, none, rfl, e14.trans e5, e5 l _ (e4 l _ (e3 l _ (e2 l _ h1))), rfl, Int.emod_nonneg _ (by decide), Int.lt_trans (Int.emod_lt_of_pos _ (by decide)) (by decide), rfl⟩) ?_ ?_
      · rintro i σ' H' hi ⟨sd, done, v, u, rfl, e, hl, hd, h0, h1', hf⟩
        rw [List.length_map] at hi
        obtain ⟨z, hz⟩ : ∃ z, ss[i]? = some z := ⟨_, List.getElem?_eq_getElem (by omega)⟩
        obtain ⟨z0, z1⟩ := hss z (List.mem_of_getElem? hz)
        rw [drop_get hz] at hf
        have hm : 0 ≤ (sd * 48271 + 974711 * (i : Int) + 12345) % 2147483647 := Int.emod_nonneg _ (by decide)
        have hm2 : (sd * 48271 + 974711 * (i : Int) + 12345) % 2147483647 < 2147483647 := Int.emod_lt_of_pos _ (by decide)
        refine q_asg (ev_op (ev_int (ev_op (ev_op (ev_op (ev_var rfl) ev_c (rv_I (by unfold CMul; omega))) (ev_op ev_c (ev_var rfl) (rv_I (by unfold CMul; omega))) rv_I0) ev_c rv_I0)) ev_c (rv_I (by decide))) fun H5 e5 => ?_
        refine q_asg (ev_op (ev_int (ev_op (ev_var rfl) (ev_op (ev_op (ev_var rfl) ev_c (rv_I (by unfold CDiv; decide))) ev_c rv_I0) (rv_I (by unfold CMul; omega)))) ev_c (rv_I (by decide))) fun H6 e6 => ?_
        have e16 : Ex H H6 := (e.trans e5).trans e6
        refine s_app (e6 l _ (e5 l _ hl)) (ev_var rfl) (ev_op (ev_op (ev_var rfl) ev_c (rv_I (by unfold CDiv; decide))) (ev_op (ev_var rfl) (ev_var rfl) (rv_ixL (ex_l e16 hS) (at_map (by omega) (by simpa using hz)))) (rv_I z0)) (by rw [List.length_map]; omega) fun H7 e7 => ?_
        refine ⟨_, done ++ [(sd * 48271 + 974711 * (i : Int) + 12345) % 2147483647 * ((sd * 48271 + 974711 * (i : Int) + 12345) % 2147483647 / 65537 + 3) % 2147483629 / 19 % z], _, _, rfl, Ex.mut (e16.trans e7) nl, ?_, by rw [List.length_append]; simp [hd], hm, hm2, ?_⟩
        · rw [List.map_append]
          exact upd_same
        · rw [List.append_assoc]
          exact hf
      · rintro σ' H' ⟨sd, done, v, u, rfl, e, hl, hd, h0, h1', hf⟩
        have en : ((ss.map V.int).length : Int).toNat = ss.length := by simp
        rw [en, List.drop_length] at hf
        have hf2 : done = digB (c % 2147483629) 0 ss := by rw [← hf]; simp [digB]
        subst hf2
        exact s_ret (ev_var rfl) fun H5 e5 => q l H5 nl (e.trans e5) (e5 l _ hl)
abbrev s_law_alphabet : Stmt := top 34
abbrev N_law_alphabet : List Str := ["row", "upto", "many", "letters", "taken", "k", "at", "turn"]
theorem sc_law_alphabet : FnScope N_law_alphabet ["row", "upto"] (defScope s_law_alphabet) := ⟨rfl, rfl, rfl, by decide +kernel, rfl, by decide +kernel, by decide +kernel⟩
def spAlp (K : PySem.W.Frag) : Sp := fun vs H Q _ => ∃ (p : Addr) (rs : List Int), vs = [.ref p, .int 6] ∧ SqL K H p (rs.map V.int) ∧ 7 ≤ rs.length ∧ 0 ≤ rs.getD 0 0 ∧ rs.getD 0 0 < 12 ∧ ∀ l : List Nat, AbcOk l → RetV (.str (S l)) H Q
theorem ok_law_alphabet (T : TT mg) (F : At K mg "_law_alphabet" s_law_alphabet) : Dn P w K mg base 1 "_law_alphabet" s_law_alphabet ["row", "upto"] (spAlp K) := by
  refine dn_ok F sc_law_alphabet (fun _ _ _ _ _ _ us hl => match us, hl with | [_, _], _ => rfl) (fun vs H Q E h => ?_) (fun f cdv A outer t H vs Q E hr h => ?_)
  · obtain ⟨p, rs, rfl, _⟩ := h; rfl
  · obtain ⟨p, rs, rfl, hS, h7, h0, h12, q⟩ := h
    refine ⟨_, (pss_cons (ps_set (i := 2) sc_law_alphabet.nd rfl (Or.inl rfl) (pe_callB (call_min2 rfl) (by rfl) T.min (by decide +kernel) (pa_cons (pv 1) (pa_cons (pe_ix ix_list (pe_lst (pa_cons pe_int (pa_cons pe_int (pa_cons pe_int (pa_cons pe_int (pa_cons pe_int (pa_cons pe_int (pa_cons pe_int (pa_cons pe_int (pa_cons pe_int (pa_cons pe_int (pa_cons pe_int (pa_cons pe_int pa_nil))))))))))))) (pe_ix ix_list (pv 0) pe_int (fun _ _ => rfl)) (fun _ _ => rfl)) pa_nil))))
      (pss_cons (ps_set (i := 3) sc_law_alphabet.nd rfl (Or.inl rfl) pe_str)
      (pss_cons (ps_set (i := 4) sc_law_alphabet.nd rfl (Or.inl rfl) (pe_lst pa_nil))
      (pss_cons (ps_for PassesOwn.never rfl (pi_range1 (by rfl) T.range (pa_cons (pv 2) pa_nil)) (pg_name (i := 5) sc_law_alphabet.nd rfl (Or.inl rfl))
        (pss_cons (ps_set (i := 6) sc_law_alphabet.nd rfl (Or.inl rfl) (pe_op op_mod (pe_callTy call_int1 (by rfl) T.int_ (by decide +kernel) (pa_cons (pe_ix ix_list (pv 0) (pe_op op_add pe_int (pv 5)) (fun _ _ => rfl)) pa_nil)) pe_int))
          (pss_cons (ps_for PassesOwn.never rfl (pi_range1 (by rfl) T.range (pa_cons pe_int pa_nil)) (pg_name (i := 7) sc_law_alphabet.nd rfl (Or.inl rfl))
            (pss_one (ps_if (pt_cmpR op_in_seq (pe_ix ix_str (pv 3) (pv 6) (fun _ _ => rfl)) (pv 4) (by rfl)) (pss_one (ps_set (i := 6) sc_law_alphabet.nd rfl (Or.inl rfl) (pe_op op_mod (pe_callTy call_int1 (by rfl) T.int_ (by decide +kernel) (pa_cons (pe_op op_add (pv 6) pe_int) pa_nil)) pe_int))) pss_nil)))
          (pss_one (ps_expr (pe_bm PySem.F.plainAttrs_list PySem.F.slot_list_append PySem.F.type_list_append mt_append (pv 4) (pa_cons (pe_ix ix_str (pv 3) (pv 6) (fun _ _ => rfl)) pa_nil)))))))
      (pss_one (ps_ret (pe_join pe_str (pe_callB cr_sortedS (by rfl) T.sorted (by decide +kernel) (pa_cons (pv 4) pa_nil))))))))), ?_⟩
    obtain ⟨m, hm, m1, m6⟩ := at_ints (ns := [2, 2, 3, 3, 3, 4, 4, 5, 6, 6, 1, 2]) (i := rs.getD 0 0) (fun z => 1 ≤ z ∧ z ≤ 6) (by decide) h0 (by show rs.getD 0 0 < 12; omega)
    refine q_asg (ev_min2 (ev_var rfl) (ev_ixNew (K := K) (el_lst (ea_cons ev_c (ea_cons ev_c (ea_cons ev_c (ea_cons ev_c (ea_cons ev_c (ea_cons ev_c (ea_cons ev_c (ea_cons ev_c (ea_cons ev_c (ea_cons ev_c (ea_cons ev_c (ea_cons ev_c ea_nil)))))))))))) (by show 12 ≤ 100000; decide)) (fun H1 e1 => ev_op (ev_var rfl) ev_c (rv_ixL (K := K) (ex_l e1 hS) (at_d (i := 0) (by omega)))) hm)) fun H1 e1 => ?_
    have hmm : (if m < (6 : Int) then m else 6) = m := by split <;> omega
    rw [hmm]
    refine q_asg ev_c fun H2 e2 => ?_
    refine q_asgL (el_lst ea_nil (by decide)) fun t H3 nt e3 ht => ?_
    have e12 := e1.trans e2
    refine q_forR1 (ea_cons (ev_var rfl) ea_nil) ⟨by omega, by omega⟩ (fun i σ' H' => ∃ (ls : List Nat) (x y z : Option V), σ' = [some (.ref p), some (.int 6), some (.int m), some (.str LETS), some (.ref t), x, y, z] ∧ Ex H2 H' ∧ H' t = some (.lst (sV (ls.map fun c => [c]))) ∧ ls.length = i ∧ ls.Nodup ∧ Sub ls L36c)
      (fun H4 e4 => ⟨[], none, none, none, rfl, e3.trans e4, e4 _ _ ht, rfl, List.nodup_nil, Sub.nil _⟩) ?_ ?_
    · rintro i σ' H' hi ⟨ls, x, y, z, rfl, e, hts, hln, hnd, hsub⟩
      refine q_asg (ev_op (ev_int (ev_op (ev_var rfl) (ev_op ev_c (ev_var rfl) rv_I0) (rv_ixL (K := K) (ex_l (e12.trans e) hS) (at_map (i := 1 + (i : Int)) (z := rs.getD (1 + i) 0) (by omega) (by
        have e1 : (1 + (i : Int)).toNat = 1 + i := by omega
        rw [e1, List.getD_eq_getElem?_getD, List.getElem?_eq_getElem (by omega)]
        rfl))))) ev_c (rv_I (by decide))) fun H4 e4 => ?_
      have hs0 := Int.emod_nonneg (rs.getD (1 + i) 0) (show (36 : Int) ≠ 0 by decide)
      have hs1 := Int.emod_lt_of_pos (rs.getD (1 + i) 0) (show (0 : Int) < 36 by decide)
      obtain ⟨a0, ha0, ha36⟩ : ∃ a0 : Nat, rs.getD (1 + i) 0 % 36 = (a0 : Int) ∧ a0 < 36 := ⟨(rs.getD (1 + i) 0 % 36).toNat, by omega, by omega⟩
      rw [ha0]
      refine q_forR1 (ea_cons ev_c ea_nil) ⟨by decide, by decide⟩ (fun j σ2 H5 => ∃ (at_ : Nat) (z : Option V), σ2 = [some (.ref p), some (.int 6), some (.int m), some (.str LETS), some (.ref t), some (.int (i : Int)), some (.int (at_ : Int)), z] ∧ Ex H4 H5 ∧ at_ < 36 ∧ (L36c.getD at_ 0 ∉ ls ∨ (at_ = (a0 + j) % 36 ∧ ∀ t, t < j → L36c.getD ((a0 + t) % 36) 0 ∈ ls)))
        (fun H5 e5 => ⟨a0, z, rfl, e5, ha36, Or.inr ⟨by omega, fun t ht => absurd ht (Nat.not_lt_zero t)⟩⟩) ?_ ?_
      · rintro j σ2 H5 hj ⟨at_, z, rfl, e5, a1, hor⟩
        have hc := at_L36 (H := H5) (i := (at_ : Int)) (by omega) (by omega)
        rw [Int.toNat_natCast] at hc
        refine s_when (b := decide (L36c.getD at_ 0 ∈ ls)) (et_test (ev_is (ev_op (ev_op (ev_var rfl) (ev_var rfl) hc) (ev_var rfl) (rv_isL (K := K) (sq_of (e5 _ _ (e4 _ _ hts))) rfl (flat_strs _))) (congrArg V.bl (in_sV _)))) (fun hb H6 e6 => ?_) (fun hb H6 e6 => ?_)
        · have hin := of_decide_eq_true hb
          have hor2 : at_ = (a0 + j) % 36 ∧ ∀ t, t < j → L36c.getD ((a0 + t) % 36) 0 ∈ ls := by
            rcases hor with z | z
            · exact absurd hin z
            · exact z
          have em : ((at_ : Int) + 1) % 36 = (((at_ + 1) % 36 : Nat) : Int) := by omega
          refine s_asg (ev_is (ev_op (ev_int (ev_op (ev_var rfl) ev_c rv_I0)) ev_c (rv_I (by decide))) (congrArg V.int em)) fun H7 e7 => ⟨_, _, rfl, (e5.trans e6).trans e7, Nat.mod_lt _ (by decide), Or.inr ⟨by have := hor2.1; omega, fun t ht => ?_⟩⟩
          by_cases hz : t < j
          · exact hor2.2 t hz
          · have : t = j := by omega
            subst this
            rw [← hor2.1]
            exact hin
        · have hin := of_decide_eq_false hb
          exact ⟨_, _, rfl, e5.trans e6, a1, Or.inl hin⟩
      · rintro σ2 H5 ⟨at_, z, rfl, e5, a1, hor⟩
        have hfree : L36c.getD at_ 0 ∉ ls := by
          rcases hor with z | ⟨_, z⟩
          · exact z
          · have e36 : ((36 : Int)).toNat = 36 := by decide
            rw [e36] at z
            exact (walk_free (by omega) fun t ht => z t (by omega)).elim
        have hc := at_L36 (H := H5) (i := (at_ : Int)) (by omega) (by omega)
        rw [Int.toNat_natCast] at hc
        refine s_app (e5 _ _ (e4 _ _ hts)) (ev_var rfl) (ev_op (ev_var rfl) (ev_var rfl) hc) (by rw [List.length_map, List.length_map]; omega) fun H6 e6 => ?_
        refine ⟨ls ++ [L36c.getD at_ 0], _, _, _, rfl, Ex.mut (((e.trans e4).trans e5).trans e6) nt, ?_, by rw [List.length_append, hln]; rfl, nodup_snoc hnd hfree, Sub.app hsub (Sub.one ?_)⟩
        · rw [upd_same]
          simp [sV]
        · have hl36 : at_ < L36c.length := by rw [L36c_len]; exact a1
          rw [List.getD_eq_getElem?_getD, List.getElem?_eq_getElem hl36]
          exact List.getElem_mem hl36
    rintro σ' H' ⟨ls, x, y, z, rfl, e, hts, hln, hnd, hsub⟩
    refine ev_joinLetters ev_c (ev_var rfl) (sq_of hts) (by omega) fun l H4 hp hpw e4 => q l ⟨?_, ?_, fun c hc => hsub c (hp.mem_iff.mp hc), ?_⟩ H4 ((e12.trans e).trans e4)
    · rw [hp.length_eq]; omega
    · rw [hp.length_eq]; omega
    · have hn2 := List.nodup_iff_pairwise_ne.mp (hp.nodup_iff.mpr hnd)
      exact (hpw.and hn2).imp fun h => by have h1 := h.1; have h2 := h.2; omega
abbrev s_law_doubling : Stmt := top 35
abbrev N_law_doubling : List Str := ["free", "text", "k"]
theorem sc_law_doubling : FnScope N_law_doubling ["free"] (defScope s_law_doubling) := ⟨rfl, rfl, rfl, by decide +kernel, rfl, by decide +kernel, by decide +kernel⟩
def spDbl : Sp := fun vs H Q _ => ∃ l : List Nat, vs = [.str (S l)] ∧ 10 ≤ l.length ∧ l.length ≤ 1000 ∧ ∀ l2 : List Nat, l2.length ≤ 2000 → Sub l2 l → RetV (.str (S l2)) H Q
theorem ok_law_doubling (T : TT mg) (F : At K mg "_law_doubling" s_law_doubling) : Dn P w K mg base 1 "_law_doubling" s_law_doubling ["free"] spDbl := by
  refine dn_ok F sc_law_doubling (fun _ _ _ _ _ _ us hl => match us, hl with | [_], _ => rfl) (fun vs H Q E h => ?_) (fun f cdv A outer t H vs Q E hr h => ?_)
  · obtain ⟨l, rfl, _⟩ := h; rfl
  · obtain ⟨l, rfl, h10, h1000, q⟩ := h
    refine ⟨_, (pss_cons (ps_set (i := 1) sc_law_doubling.nd rfl (Or.inl rfl) (pe_slice sl_str (pv 0) po_none (po_some pe_int)))
      (pss_cons (ps_for PassesOwn.never rfl (pi_range1 (by rfl) T.range (pa_cons pe_int pa_nil)) (pg_name (i := 2) sc_law_doubling.nd rfl (Or.inl rfl))
        (pss_one (ps_set (i := 1) sc_law_doubling.nd rfl (Or.inl rfl) (pe_op op_add_str (pe_op op_add_str (pv 1) (pe_ix ix_str (pv 0) (pe_op op_add pe_int (pv 2)) (fun _ _ => rfl))) (pv 1)))))
      (pss_one (ps_ret (pv 1))))), ?_⟩
    refine q_asg (ev_slS (ev_var rfl) eo_none (eo_some ev_c) (by omega)) fun H1 e1 => ?_
    refine q_forR1 (ea_cons ev_c ea_nil) ⟨by decide, by decide⟩ (fun i σ' H' => ∃ (m : List Nat) (x : Option V), σ' = [some (.str (S l)), some (.str (S m)), x] ∧ Ex H H' ∧ m.length + 1 ≤ 3 * 2 ^ i ∧ Sub m l)
      (fun H2 e2 => ⟨_, none, rfl, e1.trans e2, by rw [cutL_to (by decide), List.length_take]; omega, Sub.cut _ _ _⟩) ?_ ?_
    · rintro i σ' H' hi ⟨m, x, rfl, e, hm, hsub⟩
      have hp : 2 ^ i ≤ 2 ^ 7 := Nat.pow_le_pow_right (by decide) (by omega)
      have h7 : (2 : Nat) ^ 7 = 128 := by decide
      have hs : (2 : Nat) ^ (i + 1) = 2 ^ i * 2 := Nat.pow_succ 2 i
      obtain ⟨c, hcl, hc⟩ := at_S (H := H') (l := l) (i := 2 + (i : Int)) (by omega) (by omega) (by omega)
      refine s_asg (ev_op (ev_op (ev_var rfl) (ev_op (ev_var rfl) (ev_op ev_c (ev_var rfl) rv_I0) hc) (rv_addS (by simp; omega))) (ev_var rfl) (rv_addS (by simp; omega))) fun H2 e2 => ⟨_, _, rfl, e.trans e2, ?_, Sub.app (Sub.app hsub (Sub.one hcl)) hsub⟩
      simp
      omega
    · rintro σ' H' ⟨m, x, rfl, e, hm, hsub⟩
      exact s_ret (ev_var rfl) fun H2 e2 => q m (by
        have : (Int.toNat 8) = 8 := rfl
        rw [this] at hm
        omega) hsub H2 (e.trans e2)
abbrev s_law_two_before : Stmt := top 36
abbrev N_law_two_before : List Str := ["free", "one", "two", "k", "three"]
theorem sc_law_two_before : FnScope N_law_two_before ["free"] (defScope s_law_two_before) := ⟨rfl, rfl, rfl, by decide +kernel, rfl, by decide +kernel, by decide +kernel⟩
def fibB : Nat → Nat
  | 0 => 1
  | 1 => 2
  | n + 2 => fibB (n + 1) + fibB n
theorem fibB_le : ∀ {i : Nat}, i ≤ 12 → fibB i ≤ 400 := by decide
theorem ok_law_two_before (T : TT mg) (F : At K mg "_law_two_before" s_law_two_before) : Dn P w K mg base 1 "_law_two_before" s_law_two_before ["free"] spDbl := by
  refine dn_ok F sc_law_two_before (fun _ _ _ _ _ _ us hl => match us, hl with | [_], _ => rfl) (fun vs H Q E h => ?_) (fun f cdv A outer t H vs Q E hr h => ?_)
  · obtain ⟨l, rfl, _⟩ := h; rfl
  · obtain ⟨l, rfl, h10, h1000, q⟩ := h
    refine ⟨_, (pss_cons (ps_set (i := 1) sc_law_two_before.nd rfl (Or.inl rfl) (pe_ix ix_str (pv 0) pe_int (fun _ _ => rfl)))
      (pss_cons (ps_set (i := 2) sc_law_two_before.nd rfl (Or.inl rfl) (pe_slice sl_str (pv 0) (po_some pe_int) (po_some pe_int)))
      (pss_cons (ps_for PassesOwn.never rfl (pi_range1 (by rfl) T.range (pa_cons pe_int pa_nil)) (pg_name (i := 3) sc_law_two_before.nd rfl (Or.inl rfl))
        (pss_cons (ps_set (i := 4) sc_law_two_before.nd rfl (Or.inl rfl) (pe_op op_add_str (pv 2) (pv 1)))
          (pss_cons (ps_set (i := 1) sc_law_two_before.nd rfl (Or.inl rfl) (pv 2))
          (pss_one (ps_set (i := 2) sc_law_two_before.nd rfl (Or.inl rfl) (pv 4))))))
      (pss_one (ps_ret (pv 2)))))), ?_⟩
    obtain ⟨c, hcl, hc⟩ := at_S (H := H) (l := l) (i := 0) (by omega) (by omega) (by omega)
    refine q_asg (ev_op (ev_var rfl) ev_c hc) fun H1 e1 => ?_
    refine q_asg (ev_slS (ev_var rfl) (eo_some ev_c) (eo_some ev_c) (by omega)) fun H2 e2 => ?_
    refine q_forR1 (ea_cons ev_c ea_nil) ⟨by decide, by decide⟩ (fun i σ' H' => ∃ (a b : List Nat) (x y : Option V), σ' = [some (.str (S l)), some (.str (S a)), some (.str (S b)), x, y] ∧ Ex H H' ∧ a.length ≤ fibB i ∧ b.length ≤ fibB (i + 1) ∧ Sub a l ∧ Sub b l)
      (fun H3 e3 => ⟨_, _, none, none, rfl, (e1.trans e2).trans e3, Nat.le_refl 1, by rw [cutL_mid (by decide) (by decide), List.length_take]; exact Nat.min_le_left _ _, Sub.one hcl, Sub.cut _ _ _⟩) ?_ ?_
    · rintro i σ' H' hi ⟨a, b, x, y, rfl, e, ha, hb, sa, sb⟩
      have b1 : fibB i ≤ 400 := fibB_le (by omega)
      have b2 : fibB (i + 1) ≤ 400 := fibB_le (by omega)
      refine q_asg (ev_op (ev_var rfl) (ev_var rfl) (rv_addS (by omega))) fun H3 e3 => ?_
      refine q_asg (ev_var rfl) fun H4 e4 => ?_
      refine s_asg (ev_var rfl) fun H5 e5 => ⟨_, _, _, _, rfl, ((e.trans e3).trans e4).trans e5, hb, ?_, sb, Sub.app sb sa⟩
      rw [List.length_append, fibB]
      omega
    · rintro σ' H' ⟨a, b, x, y, rfl, e, ha, hb, sa, sb⟩
      exact s_ret (ev_var rfl) fun H2 e2 => q b (by
        have : fibB (Int.toNat 12 + 1) = 610 := rfl
        omega) sb H2 (e.trans e2)
abbrev s_law_counted : Stmt := top 37
abbrev N_law_counted : List Str := ["abc", "most", "listed", "text", "at", "letter"]
theorem sc_law_counted : FnScope N_law_counted ["abc", "most"] (defScope s_law_counted) := ⟨rfl, rfl, rfl, by decide +kernel, rfl, by decide +kernel, by decide +kernel⟩
def spCnt : Sp := fun vs H Q _ => ∃ l : List Nat, vs = [.str (S l), .int 400] ∧ 1 ≤ l.length ∧ l.length ≤ 100 ∧ ∀ l2 : List Nat, l2.length ≤ 100000 → Sub l2 l → RetV (.str (S l2)) H Q
theorem ok_law_counted (T : TT mg) (F : At K mg "_law_counted" s_law_counted) : Dn P w K mg base 1 "_law_counted" s_law_counted ["abc", "most"] spCnt := by
  refine dn_ok F sc_law_counted (fun _ _ _ _ _ _ us hl => match us, hl with | [_, _], _ => rfl) (fun vs H Q E h => ?_) (fun f cdv A outer t H vs Q E hr h => ?_)
  · obtain ⟨l, rfl, _⟩ := h; rfl
  · obtain ⟨l, rfl, h1, h6, q⟩ := h
    refine ⟨_, (pss_cons (ps_set (i := 2) sc_law_counted.nd rfl (Or.inl rfl) (pe_lst (pa_cons pe_str pa_nil)))
      (pss_cons (ps_set (i := 3) sc_law_counted.nd rfl (Or.inl rfl) pe_str)
      (pss_cons (ps_for PassesOwn.never rfl (pi_range1 (by rfl) T.range (pa_cons pe_int pa_nil)) (pg_name (i := 4) sc_law_counted.nd rfl (Or.inl rfl))
        (pss_cons (ps_if (pt_cmpR op_ge (pe_callB call_len_str (by rfl) T.len boot_len (pa_cons (pv 3) pa_nil)) (pv 1) (nomark _)) (pss_one ps_break) pss_nil)
          (pss_one (ps_for PassesOwn.never rfl (pi_str (pv 0)) (pg_name (i := 5) sc_law_counted.nd rfl (Or.inl rfl))
            (pss_cons (ps_expr (pe_bm PySem.F.plainAttrs_list PySem.F.slot_list_append PySem.F.type_list_append mt_append (pv 2) (pa_cons (pe_op op_add_str (pe_ix ix_list (pv 2) (pv 4) (fun _ _ => rfl)) (pv 5)) pa_nil)))
              (pss_one (ps_set (i := 3) sc_law_counted.nd rfl (Or.inl rfl) (pe_op op_add_str (pe_op op_add_str (pv 3) (pe_ix ix_list (pv 2) (pv 4) (fun _ _ => rfl))) (pv 5)))))))))
      (pss_one (ps_ret (pv 3)))))), ?_⟩
    refine q_asgL (xs := sV [[]]) (el_lst (ea_cons ev_c ea_nil) (by show 1 ≤ 100000; decide)) fun p H1 np e1 hp => ?_
    refine q_asg (v := .str (S [])) ev_c fun H2 e2 => ?_
    refine q_forR1 (ea_cons ev_c ea_nil) ⟨by decide, by decide⟩ (fun i σ' H' => ∃ (ls : List (List Nat)) (m : List Nat) (x y : Option V), σ' = [some (.str (S l)), some (.int 400), some (.ref p), some (.str (S m)), x, y] ∧ Ex H H' ∧ H' p = some (.lst (sV ls)) ∧ ls.length = 1 + i * l.length ∧ (∀ u ∈ ls, u.length ≤ i ∧ Sub u l) ∧ m.length ≤ 400 + 100 * 404 ∧ Sub m l)
      (fun H3 e3 => ⟨[[]], [], none, none, rfl, (e1.trans e2).trans e3, e3 _ _ (e2 _ _ hp), by simp, fun u hu => by rw [List.mem_singleton.mp hu]; exact ⟨Nat.zero_le _, Sub.nil _⟩, by simp, Sub.nil _⟩) ?_ ?_
    · rintro i σ' H' hi ⟨ls, m, x, y, rfl, e, hl, hln, hu, hm, hms⟩
      refine q_when (et_test (ev_op (ev_lenSS (ev_var rfl) (by omega)) (ev_var rfl) rv_I0)) (fun hb H3 e3 => ?_) (fun hb H3 e3 => ?_)
      · exact s_ret (ev_var rfl) fun H4 e4 => q m (by omega) hms H4 ((e.trans e3).trans e4)
      have hm4 : m.length < 400 := by
        have := of_decide_eq_false hb
        omega
      have hi4 : i ≤ 401 := by omega
      have hbig : i * l.length ≤ 401 * 100 := Nat.mul_le_mul hi4 h6
      have hpos : i < ls.length := by
        have : i * 1 ≤ i * l.length := Nat.mul_le_mul_left _ h1
        omega
      refine s_forS (ev_var rfl) (fun j σ2 H4 => ∃ (l2 : List (List Nat)) (m2 : List Nat) (y : Option V), σ2 = [some (.str (S l)), some (.int 400), some (.ref p), some (.str (S m2)), some (.int (i : Int)), y] ∧ Ex H H4 ∧ H4 p = some (.lst (sV (ls ++ l2))) ∧ l2.length = j ∧ (∀ u ∈ l2, u.length ≤ i + 1 ∧ Sub u l) ∧ m2.length ≤ m.length + j * 403 ∧ Sub m2 l)
        (fun H4 e4 => ⟨[], m, y, rfl, (e.trans e3).trans e4, by rw [List.append_nil]; exact e4 _ _ (e3 _ _ hl), rfl, fun _ h => absurd h List.not_mem_nil, by omega, hms⟩) ?_ ?_
      · rintro j c σ2 H4 hc ⟨l2, m2, y, rfl, e4, hp4, hl2, hu2, hm2, hm2s⟩
        have hj : j < l.length := by
          have := (Array.getElem?_eq_some_iff.mp hc).1
          simpa using this
        have hj403 : j * 403 ≤ 100 * 403 := Nat.mul_le_mul_right _ (by omega)
        have hat : atI (sV (ls ++ l2)) (i : Int) = some (.str (S (ls.getD i []))) := by
          refine atI_nat ?_
          rw [List.getElem?_map, List.getElem?_append_left hpos, List.getElem?_eq_getElem hpos, List.getD_eq_getElem?_getD, List.getElem?_eq_getElem hpos]
          rfl
        have hcl : c ∈ l := by rw [← Array.getElem?_toList] at hc; exact List.mem_of_getElem? hc
        have hulS : (ls.getD i []).length ≤ i ∧ Sub (ls.getD i []) l := hu _ (by
          rw [List.getD_eq_getElem?_getD, List.getElem?_eq_getElem hpos]
          exact List.getElem_mem hpos)
        have hul := hulS.1
        have hat2 : ∀ z : List Nat, atI (sV (ls ++ l2) ++ [V.str (S z)]) (i : Int) = some (.str (S (ls.getD i []))) := fun z => by
          refine atI_nat ?_
          have q1 : i < (sV (ls ++ l2)).length := by rw [List.length_map, List.length_append]; omega
          rw [List.getElem?_append_left q1, List.getElem?_map, List.getElem?_append_left hpos, List.getElem?_eq_getElem hpos, List.getD_eq_getElem?_getD, List.getElem?_eq_getElem hpos]
          rfl
        refine q_app hp4 (ev_var rfl) (ev_op (ev_op (ev_var rfl) (ev_var rfl) (rv_ixL (K := K) (sq_of hp4) hat)) (ev_var rfl) (rv_addS (b := [c]) (by show (ls.getD i []).length + 1 ≤ _; omega))) (by rw [List.length_map, List.length_append]; omega) fun H5 e5 => ?_
        refine s_asg (ev_op (ev_op (ev_var rfl) (ev_op (ev_var rfl) (ev_var rfl) (rv_ixL (K := K) (sq_of upd_same) (hat2 _))) (rv_addS (by omega))) (ev_var rfl) (rv_addS (b := [c]) (by show (m2 ++ ls.getD i []).length + 1 ≤ _; rw [List.length_append]; omega))) fun H6 e6 => ?_
        refine ⟨l2 ++ [ls.getD i [] ++ [c]], _, _, rfl, (Ex.mut (e4.trans e5) np).trans e6, ?_, by rw [List.length_append, hl2]; rfl, fun u hu3 => ?_, ?_, Sub.app (Sub.app hm2s hulS.2) (Sub.one hcl)⟩
        · refine e6 _ _ ?_
          show upd _ _ _ _ = some (.lst (List.map _ (ls ++ (l2 ++ [_]))))
          rw [← List.append_assoc, List.map_append (l₁ := ls ++ l2)]
          exact upd_same
        · rcases List.mem_append.mp hu3 with h | h
          · exact hu2 u h
          · simp only [List.mem_singleton] at h; subst h; exact ⟨by rw [List.length_append]; show _ + 1 ≤ _; omega, Sub.app hulS.2 (Sub.one hcl)⟩
        · show (m2 ++ ls.getD i [] ++ [c]).length ≤ _
          rw [List.length_append, List.length_append]
          show _ + _ + 1 ≤ _
          omega
      · rintro σ2 H4 ⟨l2, m2, y, rfl, e4, hp4, hl2, hu2, hm2, hm2s⟩
        have hsz : (S l).cps.size = l.length := by simp
        rw [hsz] at hl2 hm2
        have hj403 : l.length * 403 ≤ 100 * 403 := Nat.mul_le_mul_right _ h6
        refine ⟨ls ++ l2, m2, _, _, rfl, e4, hp4, by rw [List.length_append, hln, hl2, Nat.succ_mul]; omega, fun u hu3 => ?_, by omega, hm2s⟩
        rcases List.mem_append.mp hu3 with h | h
        · have := hu u h; exact ⟨by omega, this.2⟩
        · exact hu2 u h
    · rintro σ' H' ⟨ls, m, x, y, rfl, e, hl, hln, hu, hm, hms⟩
      exact s_ret (ev_var rfl) fun H2 e2 => q m (by omega) hms H2 (e.trans e2)
end
end My

set_option Elab.async false
set_option linter.all false
set_option maxRecDepth 100000
set_option maxHeartbeats 4000000
namespace My
open PySem PySem.Spec PyProof.Rows L2 Evl
open SX (S S_len S_cat S_beq S_beq_eq S_inj S_tl)
/-- x in [..], the list new -/
theorem ev_inNew {K : PySem.W.Frag} {σ : L2.St} {H : Hp} {ta tb : TE} {x : V} {xs : List V} (ha : Ev ta σ H x) (hb : EvL tb σ H xs) (hx : flatV x = true) (hf : xs.all flatV = true) : Ev (tOp (rIn K false) ta tb) σ H (.bl (inV x xs)) := fun H0 e0 Q q =>
  ha H0 e0 _ fun H1 e1 => hb H1 (e0.trans e1) _ fun p H2 hp e2 h2 => rv_isL (K := K) (sq_of h2) hx hf H2 (Ex.refl H2) Q fun H3 e3 => q H3 ((e1.trans e2).trans e3)
/-- a test, then one assignment of any text -/
theorem q_cutIf {σ : L2.St} {H : Hp} {t : L2.TT} {tu tz : TS} {D : Ends} {b : Bool} (M : L2.St → Hp → Prop) (h : EvT t σ H b) (h1 : b = true → ∀ H1, Ex H H1 → tu { D with nx := M } σ H1) (h2 : ∀ H1, Ex H H1 → M σ H1) (k : ∀ σ' H', M σ' H' → tz D σ' H') : tCut (tIfS t tu tNext) tz D σ H :=
  q_cut (M := M) (s_when (D := { D with nx := M }) h h1 fun _ => h2) k
theorem s_call {σ : L2.St} {H : Hp} {i : Nat} {sp : Sp} {dvs vs : List V} {E : XK} {ta : TA} {D : Ends} (h : EvA ta σ H vs) (hs : ∀ H1, Ex H H1 → sp (vs ++ dvs) H1 (fun x H2 => D.nx (σ.set i (some x)) H2) E) : tAsg (tCall sp dvs E ta) (gName i) D σ H :=
  h H (Ex.refl H) _ fun H1 e1 => hs H1 e1
section
variable {P : Program} {w : World} {K : PySem.W.Frag} {mg : Str → Option Value} {base : Heap}
abbrev s_law_any_text : Stmt := top 38
abbrev N_law_any_text : List Str := ["abc", "row", "most", "wide", "free", "part", "text", "at", "digit", "k", "letter"]
theorem sc_law_any_text : FnScope N_law_any_text ["abc", "row", "most"] (defScope s_law_any_text) := ⟨rfl, rfl, rfl, by decide +kernel, rfl, by decide +kernel, by decide +kernel⟩
def spAny (K : PySem.W.Frag) : Sp := fun vs H Q _ => ∃ (l : List Nat) (p : Addr) (rs : List Int), vs = [.str (S l), .ref p, .int 400] ∧ 1 ≤ l.length ∧ l.length ≤ 100 ∧ SqL K H p (rs.map V.int) ∧ rs.length = 405 ∧ (0 ≤ rs.getD 1 0 ∧ rs.getD 1 0 < 8) ∧ (0 ≤ rs.getD 4 0 ∧ rs.getD 4 0 < 12) ∧
  ∀ m : List Nat, m.length ≤ 400 → Sub m l → RetV (.str (S m)) H Q
theorem cutL_ints (rs : List Int) (lo hi : Option Int) : cutV (rs.map V.int) lo hi = (cutL rs lo hi).map V.int := by rw [cutV_L, cutL_map]
theorem ok_law_any_text (T : TT mg) (F : At K mg "_law_any_text" s_law_any_text) (D_law_doubling : Dn P w K mg base 1 "_law_doubling" s_law_doubling ["free"] spDbl) (D_law_two_before : Dn P w K mg base 1 "_law_two_before" s_law_two_before ["free"] spDbl)
    (D_law_counted : Dn P w K mg base 1 "_law_counted" s_law_counted ["abc", "most"] spCnt) : Dn P w K mg base 2 "_law_any_text" s_law_any_text ["abc", "row", "most"] (spAny K) := by
  refine dn_ok F sc_law_any_text (fun _ _ _ _ _ _ us hl => match us, hl with | [_, _, _], _ => rfl) (fun vs H Q E h => ?_) (fun f cdv A outer t H vs Q E hr h => ?_)
  · obtain ⟨l, p, rs, rfl, _⟩ := h; rfl
  · obtain ⟨l, p, rs, rfl, l1, l100, hS, hlen, ⟨w0, w1⟩, ⟨p0, p1⟩, q⟩ := h
    refine ⟨_, (pss_cons (ps_set (i := 3) sc_law_any_text.nd rfl (Or.inl rfl) (pe_callB (call_min2 rfl) (by rfl) T.min (by decide +kernel) (pa_cons (pv 2) (pa_cons (pe_op op_mod (pe_callTy call_int1 (by rfl) T.int_ (by decide +kernel) (pa_cons (pe_ix ix_list (pv 1) pe_int (fun _ _ => rfl)) pa_nil)) (pe_ix ix_list (pe_lst (pa_cons pe_int (pa_cons pe_int (pa_cons pe_int (pa_cons (pe_op op_add (pv 2) pe_int) (pa_cons (pe_op op_add (pv 2) pe_int) (pa_cons (pe_op op_add (pv 2) pe_int) (pa_cons (pe_op op_add (pv 2) pe_int) (pa_cons (pe_op op_add (pv 2) pe_int) pa_nil))))))))) (pe_ix ix_list (pv 1) pe_int (fun _ _ => rfl)) (fun _ _ => rfl))) pa_nil))))
      (pss_cut (ps_if (PW.pt (pw_and (pt_cmpR op_gt (pe_ix ix_list (pv 1) pe_int (fun _ _ => rfl)) pe_int (nomark _)) (pw_and1 (pt_cmpR op_gt (pe_ix ix_list (pv 1) pe_int (fun _ _ => rfl)) pe_int (nomark _))))) (pss_one (ps_set (i := 3) sc_law_any_text.nd rfl (Or.inl rfl) (pe_op op_sub (pv 2) (pe_op op_mod (pe_callTy call_int1 (by rfl) T.int_ (by decide +kernel) (pa_cons (pe_ix ix_list (pv 1) pe_int (fun _ _ => rfl)) pa_nil)) pe_int)))) pss_nil)
      (pss_cons (ps_set (i := 4) sc_law_any_text.nd rfl (Or.inr rfl) (pe_join pe_str (pe_lc (own := [("digit", 8)]) (g := gName 8) (tt := tYes) rfl sc_law_any_text.nd (pi_list (pe_slice sl_list (pv 1) (po_some pe_int) (po_some pe_int))) (blkOk_by (own := [("digit", 8)]) (N := N_law_any_text) (sc := defScope s_law_any_text) (by decide +kernel)) (fun _ _ _ _ _ => pg_name (i := 8) sc_law_any_text.nd rfl (Or.inl rfl)) (fun _ _ _ _ _ => pts_nil) (fun _ _ _ _ _ => (pe_ix ix_str (pv 0) (pe_op op_mod (pe_callTy call_int1 (by rfl) T.int_ (by decide +kernel) (pa_cons (pv 8) pa_nil)) (pe_callB call_len_str (by rfl) T.len boot_len (pa_cons (pv 0) pa_nil))) (fun _ _ => rfl))))))
      (pss_cons (ps_set (i := 5) sc_law_any_text.nd rfl (Or.inl rfl) (pe_slice sl_str (pv 4) po_none (po_some (pe_ix ix_list (pe_lst (pa_cons pe_int (pa_cons pe_int (pa_cons pe_int (pa_cons pe_int (pa_cons pe_int (pa_cons pe_int (pa_cons pe_int (pa_cons pe_int (pa_cons pe_int (pa_cons pe_int (pa_cons pe_int (pa_cons pe_int pa_nil))))))))))))) (pe_ix ix_list (pv 1) pe_int (fun _ _ => rfl)) (fun _ _ => rfl)))))
      (pss_cons (ps_set (i := 6) sc_law_any_text.nd rfl (Or.inl rfl) (pv 4))
      (pss_cut (ps_if (pt_cmpR op_in_seq (pe_ix ix_list (pv 1) pe_int (fun _ _ => rfl)) (pe_lst (pa_cons pe_int (pa_cons pe_int pa_nil))) (by rfl)) (pss_one (ps_set (i := 6) sc_law_any_text.nd rfl (Or.inl rfl) (pe_op op_repS (pe_ix ix_str (pv 5) pe_int (fun _ _ => rfl)) pe_int))) pss_nil)
      (pss_cut (ps_if (pt_cmpR op_in_seq (pe_ix ix_list (pv 1) pe_int (fun _ _ => rfl)) (pe_lst (pa_cons pe_int (pa_cons pe_int (pa_cons pe_int (pa_cons pe_int pa_nil))))) (by rfl)) (pss_one (ps_set (i := 6) sc_law_any_text.nd rfl (Or.inl rfl) (pe_op op_repS (pv 5) pe_int))) pss_nil)
      (pss_cut (ps_if (pt_cmpR op_eq (pe_ix ix_list (pv 1) pe_int (fun _ _ => rfl)) pe_int (nomark _)) (pss_one (ps_set (i := 6) sc_law_any_text.nd rfl (Or.inl rfl) (pe_dn D_law_doubling hr (by decide) rfl (pa_cons (pv 4) pa_nil)))) pss_nil)
      (pss_cut (ps_if (pt_cmpR op_eq (pe_ix ix_list (pv 1) pe_int (fun _ _ => rfl)) pe_int (nomark _)) (pss_one (ps_set (i := 6) sc_law_any_text.nd rfl (Or.inl rfl) (pe_dn D_law_two_before hr (by decide) rfl (pa_cons (pv 4) pa_nil)))) pss_nil)
      (pss_cut (ps_if (pt_cmpR op_eq (pe_ix ix_list (pv 1) pe_int (fun _ _ => rfl)) pe_int (nomark _)) (pss_one (ps_set (i := 6) sc_law_any_text.nd rfl (Or.inl rfl) (pe_dn D_law_counted hr (by decide) rfl (pa_cons (pv 0) (pa_cons (pv 2) pa_nil))))) pss_nil)
      (pss_cut (ps_if (pt_cmpR op_in_seq (pe_ix ix_list (pv 1) pe_int (fun _ _ => rfl)) (pe_lst (pa_cons pe_int (pa_cons pe_int pa_nil))) (by rfl)) (pss_cons (ps_set (i := 7) sc_law_any_text.nd rfl (Or.inl rfl) (pe_op op_mod (pe_callTy call_int1 (by rfl) T.int_ (by decide +kernel) (pa_cons (pe_ix ix_list (pv 1) pe_int (fun _ _ => rfl)) pa_nil)) (pe_op op_add (pv 3) pe_int)))
        (pss_one (ps_set (i := 6) sc_law_any_text.nd rfl (Or.inl rfl) (pe_op op_add_str (pe_op op_add_str (pe_slice sl_str (pe_op op_repS (pv 5) pe_int) po_none (po_some (pv 7))) (pe_ix ix_str (pv 4) pe_int (fun _ _ => rfl))) (pe_slice sl_str (pe_op op_repS (pv 5) pe_int) (po_some (pe_op op_add (pv 7) pe_int)) po_none))))) pss_nil)
      (pss_cut (ps_if (pt_cmpR op_eq (pe_ix ix_list (pv 1) pe_int (fun _ _ => rfl)) pe_int (nomark _)) (pss_one (ps_set (i := 6) sc_law_any_text.nd rfl (Or.inl rfl) (pe_op op_add_str (pe_slice sl_str (pv 4) po_none (po_some (pe_op op_mod (pe_callTy call_int1 (by rfl) T.int_ (by decide +kernel) (pa_cons (pe_ix ix_list (pv 1) pe_int (fun _ _ => rfl)) pa_nil)) pe_int))) (pe_op op_repS (pe_ix ix_str (pv 5) pe_int (fun _ _ => rfl)) pe_int)))) pss_nil)
      (pss_cut (ps_if (pt_cmpR op_eq (pe_ix ix_list (pv 1) pe_int (fun _ _ => rfl)) pe_int (nomark _)) (pss_one (ps_set (i := 6) sc_law_any_text.nd rfl (Or.inl rfl) (pe_join pe_str (pe_lc (te := tM1 (rJoin K) (tC _) (tLc (iStr (tVar 0)) (gName 10) tYes (tOp rRepS (tVar 10) (tVar 9)) [10])) (own := [("k", 9)]) (g := gName 9) (tt := tYes) rfl sc_law_any_text.nd (pi_range2 (by rfl) T.range (pa_cons pe_int (pa_cons pe_int pa_nil))) (blkOk_by (own := [("k", 9)]) (N := N_law_any_text) (sc := defScope s_law_any_text) (by decide +kernel)) (fun _ _ _ _ _ => pg_name (i := 9) sc_law_any_text.nd rfl (Or.inr rfl)) (fun _ _ _ _ _ => pts_nil) (fun _ _ _ _ _ => (pe_join pe_str (pe_lc (own := [("letter", 10)]) (g := gName 10) (tt := tYes) rfl sc_law_any_text.nd (pi_str (pv 0)) (blkOk_by (by rfl)) (fun _ _ _ _ _ => pg_name (i := 10) sc_law_any_text.nd rfl (Or.inl rfl)) (fun _ _ _ _ _ => pts_nil) (fun _ _ _ _ _ => (pe_op op_repS (pv 10) (pv 9)))))))))) pss_nil)
      (pss_cut (ps_if (pt_cmpR op_eq (pe_ix ix_list (pv 1) pe_int (fun _ _ => rfl)) pe_int (nomark _)) (pss_one (ps_set (i := 6) sc_law_any_text.nd rfl (Or.inl rfl) (pe_op op_add_str (pe_op op_repS (pe_slice sl_str (pv 4) po_none (po_some (pe_op op_fdiv (pv 3) pe_int))) pe_int) (pe_slice sl_str (pv 4) po_none (po_some pe_int))))) pss_nil)
      (pss_cut (ps_if (pt_cmpR op_gt (pe_ix ix_list (pv 1) pe_int (fun _ _ => rfl)) pe_int (nomark _)) (pss_one (ps_set (i := 6) sc_law_any_text.nd rfl (Or.inl rfl) (pe_join pe_str (pe_lc (own := [("k", 9)]) (g := gName 9) (tt := tYes) rfl sc_law_any_text.nd (pi_range2 (by rfl) T.range (pa_cons pe_int (pa_cons pe_int pa_nil))) (blkOk_by (own := [("k", 9)]) (N := N_law_any_text) (sc := defScope s_law_any_text) (by decide +kernel)) (fun _ _ _ _ _ => pg_name (i := 9) sc_law_any_text.nd rfl (Or.inl rfl)) (fun _ _ _ _ _ => pts_nil) (fun _ _ _ _ _ => (pe_slice sl_str (pv 4) po_none (po_some (pv 9)))))))) pss_nil)
      (pss_one (ps_ret (pe_slice sl_str (pv 6) po_none (po_some (pv 3)))))))))))))))))))), ?_⟩
    -- wide
    obtain ⟨m, hm, m1, m2⟩ := at_ints (ns := [8, 46, 130, 401, 401, 401, 401, 401]) (i := rs.getD 1 0) (fun z => 1 ≤ z ∧ z ≤ 401) (by decide) w0 (by show rs.getD 1 0 < 8; omega)
    refine q_asg (ev_min2 (ev_var rfl) (ev_op (ev_int (ev_op (ev_var rfl) ev_c (rv_ixL (K := K) (ex_l (Ex.refl H) hS) (at_d (i := 2) (by omega))))) (ev_ixNew (K := K) (xs := [8, 46, 130, 401, 401, 401, 401, 401].map V.int) (el_lst (ea_cons ev_c (ea_cons ev_c (ea_cons ev_c (ea_cons (ev_op (ev_var rfl) ev_c rv_I0) (ea_cons (ev_op (ev_var rfl) ev_c rv_I0) (ea_cons (ev_op (ev_var rfl) ev_c rv_I0) (ea_cons (ev_op (ev_var rfl) ev_c rv_I0) (ea_cons (ev_op (ev_var rfl) ev_c rv_I0) ea_nil)))))))) (by show 8 ≤ 100000; decide)) (fun H1 e1 => (ev_op (ev_var rfl) ev_c (rv_ixL (K := K) (ex_l e1 hS) (at_d (i := 1) (by omega))))) hm) (rv_I (show (0 : Int) < m by omega)))) fun H1 e1 => ?_
    obtain ⟨wd, hwd, wd0, wd4⟩ : ∃ wd : Int, (if rs.getD 2 0 % m < 400 then rs.getD 2 0 % m else 400) = wd ∧ 0 ≤ wd ∧ wd ≤ 400 := by
      have a := Int.emod_nonneg (rs.getD 2 0) (show m ≠ 0 by omega)
      exact ⟨_, rfl, by split <;> omega, by split <;> omega⟩
    rw [hwd]
    refine q_cutIf (fun σ' H' => ∃ wd : Int, σ' = [some (.str (S l)), some (.ref p), some (.int 400), some (.int wd), none, none, none, none, none, none, none] ∧ Ex H H' ∧ 0 ≤ wd ∧ wd ≤ 400)
      (et_and (et_test (ev_op (ev_op (ev_var rfl) ev_c (rv_ixL (K := K) (ex_l e1 hS) (at_d (i := 0) (by omega)))) ev_c rv_I0)) fun _ => et_test (ev_op (ev_op (ev_var rfl) ev_c (rv_ixL (K := K) (ex_l e1 hS) (at_d (i := 1) (by omega)))) ev_c rv_I0)) (fun _ H2 e2 => ?_) (fun H2 e2 => ⟨wd, rfl, e1.trans e2, wd0, wd4⟩) ?_
    · refine s_asg (ev_op (ev_var rfl) (ev_op (ev_int (ev_op (ev_var rfl) ev_c (rv_ixL (K := K) (ex_l (e1.trans e2) hS) (at_d (i := 2) (by omega))))) ev_c (rv_I (by decide))) rv_I0) fun H3 e3 => ⟨_, rfl, (e1.trans e2).trans e3, ?_, ?_⟩
      · have := Int.emod_lt_of_pos (rs.getD 2 0) (show (0 : Int) < 120 by decide)
        omega
      · have := Int.emod_nonneg (rs.getD 2 0) (show (120 : Int) ≠ 0 by decide)
        omega
    clear hwd wd0 wd4 wd
    rintro σ' H2 ⟨wd, rfl, e2, wd0, wd4⟩
    -- free
    let ds : List Int := cutL rs (some 5) (some 405)
    have hds : ds.length = 400 := by
      show (cutL rs (some 5) (some 405)).length = 400
      rw [cutL_mid (by decide) (by decide), List.length_take, List.length_drop, hlen]
      decide
    let g : Nat → List Nat := fun i => [(atI l (ds.getD i 0 % (l.length : Int))).getD 0]
    refine q_asg (v := .str (S ((List.range 400).map g).flatten)) (ev_joinL (K := K) ev_c (by
      rw [← given_S]
      have hx : given 400 (fun _ => true) (fun i => V.str (S (g i))) = given (ds.map V.int).length (fun _ => true) (fun i => V.str (S (g i))) := by rw [List.length_map, hds]
      rw [hx]
      refine el_lcNL (K := K) (fun _ => true) (fun i => V.str (S (g i))) (by
        show EvL _ _ _ ((cutL rs (some 5) (some 405)).map V.int)
        rw [← cutL_ints]
        exact el_sl (ev_var rfl) (eo_some ev_c) (eo_some ev_c) (ex_l e2 hS)) (by rw [List.length_map, hds]; decide) (fun _ => rfl) (fun _ _ _ _ _ => et_yes) (fun i x H3 e3 hx _ => ?_)
      obtain ⟨z, hz, rfl⟩ := get_map hx
      have lp : (0 : Int) < (l.length : Int) := by omega
      obtain ⟨c, hc, _⟩ := at_get (l := l) (Int.emod_nonneg z (show ((l.length : Nat) : Int) ≠ 0 by omega)) (Int.emod_lt_of_pos z lp)
      have gi : g i = [c] := by
        show [(atI l (ds.getD i 0 % (l.length : Int))).getD 0] = [c]
        rw [List.getD_eq_getElem?_getD, hz]
        show [(atI l (z % (l.length : Int))).getD 0] = [c]
        rw [hc]
        rfl
      rw [gi]
      exact ev_op (ev_var rfl) (ev_op (ev_int (ev_var rfl)) (ev_lenSS (ev_var rfl) (by omega)) (rv_I lp)) (rv_ixSS (by omega) hc)) (Nat.le_trans (sum_range g 1 (fun _ => Nat.le_refl 1) 400) (by decide))) fun H3 e3 => ?_
    have hfr : (((List.range 400).map g).flatten).length = 400 := by
      rw [len_range g 1 (fun _ => rfl)]
    have sfr : Sub ((List.range 400).map g).flatten l := Sub.flat fun i hi => by
      have lp : (0 : Int) < (l.length : Int) := by omega
      obtain ⟨c, hc, hcl⟩ := at_get (l := l) (Int.emod_nonneg (ds.getD i 0) (show ((l.length : Nat) : Int) ≠ 0 by omega)) (Int.emod_lt_of_pos (ds.getD i 0) lp)
      have gi : g i = [c] := by
        show [(atI l (ds.getD i 0 % (l.length : Int))).getD 0] = [c]
        rw [hc]
        rfl
      rw [gi]
      exact Sub.one hcl
    revert hfr sfr e3
    generalize ((List.range 400).map g).flatten = fr
    intro e3 hfr sfr
    have e03 := e2.trans e3
    -- part
    obtain ⟨n, hn, n1, n2⟩ := at_ints (ns := [1, 1, 2, 2, 2, 3, 3, 4, 5, 6, 8, 12]) (i := rs.getD 4 0) (fun z => 1 ≤ z ∧ z ≤ 12) (by decide) p0 (by show rs.getD 4 0 < 12; omega)
    refine q_asg (ev_slS (ev_var rfl) eo_none (eo_some (ev_ixNew (K := K) (el_lst (ea_cons ev_c (ea_cons ev_c (ea_cons ev_c (ea_cons ev_c (ea_cons ev_c (ea_cons ev_c (ea_cons ev_c (ea_cons ev_c (ea_cons ev_c (ea_cons ev_c (ea_cons ev_c (ea_cons ev_c ea_nil)))))))))))) (by show 12 ≤ 100000; decide)) (fun H4 e4 => (ev_op (ev_var rfl) ev_c (rv_ixL (K := K) (ex_l (e03.trans e4) hS) (at_d (i := 4) (by omega))))) hn)) (by omega)) fun H4 e4 => ?_
    have hpt : 1 ≤ (cutL fr none (some n)).length ∧ (cutL fr none (some n)).length ≤ 12 := by
      rw [cutL_to (by omega), List.length_take]
      omega
    have spt : Sub (cutL fr none (some n)) l := (Sub.cut _ _ _).trans sfr
    revert hpt spt e4
    generalize cutL fr none (some n) = pt
    intro e4 hpt spt
    have e04 := e03.trans e4
    refine q_asg (ev_var rfl) fun H5 e5 => ?_
    have e05 := e04.trans e5
    let M : L2.St → Hp → Prop := fun σ' H' => ∃ (m : List Nat) (x : Option V), σ' = [some (.str (S l)), some (.ref p), some (.int 400), some (.int wd), some (.str (S fr)), some (.str (S pt)), some (.str (S m)), x, none, none, none] ∧ Ex H H' ∧ m.length ≤ 400000 ∧ Sub m l
    -- [6, 7]
    refine q_cutIf M (et_test (ev_inNew (K := K) (ev_op (ev_var rfl) ev_c (rv_ixL (K := K) (ex_l e05 hS) (at_d (i := 0) (by omega)))) (el_lst (ea_cons ev_c (ea_cons ev_c ea_nil)) (by show 2 ≤ 100000; decide)) rfl rfl)) (fun _ H6 e6 => ?_) (fun H6 e6 => ⟨fr, none, rfl, e05.trans e6, by omega, sfr⟩) ?_
    · obtain ⟨c, hcl, hc⟩ := at_S (H := H6) (l := pt) (i := 0) (by omega) (by omega) (by omega)
      exact s_asg (ev_op (ev_op (ev_var rfl) ev_c hc) ev_c (rv_repS (by decide) (by decide) (by show 1 * 400 ≤ _; decide))) fun H7 e7 => ⟨_, none, rfl, (e05.trans e6).trans e7, by
        rw [List.length_flatten, List.map_replicate, List.sum_replicate_nat]; show 400 * 1 ≤ _; decide, Sub.rep _ (Sub.one (spt c hcl))⟩
    clear e05 e5
    rintro σ' H5 ⟨m, x, rfl, e05, hm, sm⟩
    -- [8 .. 11]
    refine q_cutIf M (et_test (ev_inNew (K := K) (ev_op (ev_var rfl) ev_c (rv_ixL (K := K) (ex_l e05 hS) (at_d (i := 0) (by omega)))) (el_lst (ea_cons ev_c (ea_cons ev_c (ea_cons ev_c (ea_cons ev_c ea_nil)))) (by show 4 ≤ 100000; decide)) rfl rfl)) (fun _ H6 e6 => ?_) (fun H6 e6 => ⟨m, x, rfl, e05.trans e6, hm, sm⟩) ?_
    · have hb : pt.length * (Int.toNat 400) ≤ 12 * 400 := Nat.mul_le_mul_right _ hpt.2
      exact s_asg (ev_op (ev_var rfl) ev_c (rv_repS (by decide) (by decide) (by omega))) fun H7 e7 => ⟨_, x, rfl, (e05.trans e6).trans e7, by
        rw [List.length_flatten, List.map_replicate, List.sum_replicate_nat, Nat.mul_comm]; omega, Sub.rep _ spt⟩
    clear e05 sm hm x m
    rintro σ' H5 ⟨m, x, rfl, e05, hm, sm⟩
    -- 12
    refine q_cutIf M (et_test (ev_op (ev_op (ev_var rfl) ev_c (rv_ixL (K := K) (ex_l e05 hS) (at_d (i := 0) (by omega)))) ev_c (rv_eq rfl))) (fun _ H6 e6 => ?_) (fun H6 e6 => ⟨m, x, rfl, e05.trans e6, hm, sm⟩) ?_
    · exact s_call (ea_cons (ev_var rfl) ea_nil) fun H7 e7 => ⟨fr, rfl, by omega, by omega, fun l2 h2 s2 H8 e8 => ⟨l2, x, rfl, ((e05.trans e6).trans e7).trans e8, by omega, s2.trans sfr⟩⟩
    clear e05 sm hm x m
    rintro σ' H5 ⟨m, x, rfl, e05, hm, sm⟩
    -- 13
    refine q_cutIf M (et_test (ev_op (ev_op (ev_var rfl) ev_c (rv_ixL (K := K) (ex_l e05 hS) (at_d (i := 0) (by omega)))) ev_c (rv_eq rfl))) (fun _ H6 e6 => ?_) (fun H6 e6 => ⟨m, x, rfl, e05.trans e6, hm, sm⟩) ?_
    · exact s_call (ea_cons (ev_var rfl) ea_nil) fun H7 e7 => ⟨fr, rfl, by omega, by omega, fun l2 h2 s2 H8 e8 => ⟨l2, x, rfl, ((e05.trans e6).trans e7).trans e8, by omega, s2.trans sfr⟩⟩
    clear e05 sm hm x m
    rintro σ' H5 ⟨m, x, rfl, e05, hm, sm⟩
    -- 14
    refine q_cutIf M (et_test (ev_op (ev_op (ev_var rfl) ev_c (rv_ixL (K := K) (ex_l e05 hS) (at_d (i := 0) (by omega)))) ev_c (rv_eq rfl))) (fun _ H6 e6 => ?_) (fun H6 e6 => ⟨m, x, rfl, e05.trans e6, hm, sm⟩) ?_
    · exact s_call (ea_cons (ev_var rfl) (ea_cons (ev_var rfl) ea_nil)) fun H7 e7 => ⟨l, rfl, l1, l100, fun l2 h2 s2 H8 e8 => ⟨l2, x, rfl, ((e05.trans e6).trans e7).trans e8, by omega, s2⟩⟩
    clear e05 sm hm x m
    rintro σ' H5 ⟨m, x, rfl, e05, hm, sm⟩
    -- [15, 16]
    have hb4 : pt.length * (Int.toNat 400) ≤ 12 * 400 := Nat.mul_le_mul_right _ hpt.2
    have hrep : ((List.replicate (Int.toNat 400) pt).flatten).length ≤ 4800 := by
      rw [List.length_flatten, List.map_replicate, List.sum_replicate_nat, Nat.mul_comm]; omega
    refine q_cutIf M (et_test (ev_inNew (K := K) (ev_op (ev_var rfl) ev_c (rv_ixL (K := K) (ex_l e05 hS) (at_d (i := 0) (by omega)))) (el_lst (ea_cons ev_c (ea_cons ev_c ea_nil)) (by show 2 ≤ 100000; decide)) rfl rfl)) (fun _ H6 e6 => ?_) (fun H6 e6 => ⟨m, x, rfl, e05.trans e6, hm, sm⟩) ?_
    · refine q_asg (ev_op (ev_int (ev_op (ev_var rfl) ev_c (rv_ixL (K := K) (ex_l (e05.trans e6) hS) (at_d (i := 3) (by omega))))) (ev_op (ev_var rfl) ev_c rv_I0) (rv_I (show (0 : Int) < wd + 1 by omega))) fun H7 e7 => ?_
      obtain ⟨c, hcl, hc⟩ := at_S (H := H7) (l := fr) (i := 12) (by omega) (by omega) (by omega)
      have c1 := cutL_len (List.replicate (Int.toNat 400) pt).flatten none (some (rs.getD 3 0 % (wd + 1)))
      have c2 := cutL_len (List.replicate (Int.toNat 400) pt).flatten (some (rs.getD 3 0 % (wd + 1) + 1)) none
      refine s_asg (ev_op (ev_op (ev_slS (ev_op (ev_var rfl) ev_c (rv_repS (by decide) (by decide) (by omega))) eo_none (eo_some (ev_var rfl)) (by omega)) (ev_op (ev_var rfl) ev_c hc) (rv_addS (b := [c]) (by show _ + 1 ≤ _; omega)))
        (ev_slS (ev_op (ev_var rfl) ev_c (rv_repS (by decide) (by decide) (by omega))) (eo_some (ev_op (ev_var rfl) ev_c rv_I0)) eo_none (by omega)) (rv_addS (by rw [List.length_append]; show _ + 1 + _ ≤ _; omega))) fun H8 e8 => ⟨_, _, rfl, ((e05.trans e6).trans e7).trans e8, ?_, Sub.app (Sub.app ((Sub.cut _ _ _).trans (Sub.rep _ spt)) (Sub.one (sfr c hcl))) ((Sub.cut _ _ _).trans (Sub.rep _ spt))⟩
      rw [List.length_append, List.length_append]
      show _ + 1 + _ ≤ _
      omega
    clear e05 sm hm x m
    rintro σ' H5 ⟨m, x, rfl, e05, hm, sm⟩
    -- 17
    refine q_cutIf M (et_test (ev_op (ev_op (ev_var rfl) ev_c (rv_ixL (K := K) (ex_l e05 hS) (at_d (i := 0) (by omega)))) ev_c (rv_eq rfl))) (fun _ H6 e6 => ?_) (fun H6 e6 => ⟨m, x, rfl, e05.trans e6, hm, sm⟩) ?_
    · obtain ⟨c, hcl, hc⟩ := at_S (H := H6) (l := pt) (i := 0) (by omega) (by omega) (by omega)
      have c1 := cutL_len fr none (some (rs.getD 3 0 % 21))
      have c2 : ((List.replicate (Int.toNat 400) [c]).flatten).length = 400 := by
        rw [List.length_flatten, List.map_replicate, List.sum_replicate_nat]; rfl
      refine s_asg (ev_op (ev_slS (ev_var rfl) eo_none (eo_some (ev_op (ev_int (ev_op (ev_var rfl) ev_c (rv_ixL (K := K) (ex_l (e05.trans e6) hS) (at_d (i := 3) (by omega))))) ev_c (rv_I (by decide)))) (by omega)) (ev_op (ev_op (ev_var rfl) ev_c hc) ev_c (rv_repS (by decide) (by decide) (by show 1 * 400 ≤ _; decide))) (rv_addS (by omega))) fun H7 e7 => ⟨_, _, rfl, (e05.trans e6).trans e7, ?_, Sub.app ((Sub.cut _ _ _).trans sfr) (Sub.rep _ (Sub.one (spt c hcl)))⟩
      rw [List.length_append]
      omega
    clear e05 sm hm x m
    rintro σ' H5 ⟨m, x, rfl, e05, hm, sm⟩
    -- 18
    refine q_cutIf M (et_test (ev_op (ev_op (ev_var rfl) ev_c (rv_ixL (K := K) (ex_l e05 hS) (at_d (i := 0) (by omega)))) ev_c (rv_eq rfl))) (fun _ H6 e6 => ?_) (fun H6 e6 => ⟨m, x, rfl, e05.trans e6, hm, sm⟩) ?_
    · let g1 : Nat → Nat → List Nat := fun k i => (List.replicate (min k 100) (match l[i]? with | some c => [c] | none => [])).flatten
      have g1l : ∀ k i, (g1 k i).length ≤ 100 := by
        intro k i
        show ((List.replicate (min k 100) (match l[i]? with | some c => [c] | none => [])).flatten).length ≤ 100
        rw [List.length_flatten, List.map_replicate, List.sum_replicate_nat]
        have : (match l[i]? with | some c => [c] | none => []).length ≤ 1 := by split <;> simp
        have h2 : min k 100 * (match l[i]? with | some c => [c] | none => []).length ≤ 100 * 1 := Nat.mul_le_mul (Nat.min_le_right _ _) this
        exact h2
      let g2 : Nat → List Nat := fun k => ((List.range l.length).map (g1 (1 + k))).flatten
      have g2l : ∀ k, (g2 k).length ≤ 10000 := fun k => Nat.le_trans (len_range_le _ 100 (g1l (1 + k)) _) (by have := Nat.mul_le_mul_right 100 l100; omega)
      refine s_asg (v := .str (S ((List.range 28).map g2).flatten)) (ev_joinL (K := K) ev_c (by
        rw [← given_S]
        refine el_lcR2 (lo := 1) (n := 29) (fun _ => true) (fun i => V.str (S (g2 i))) (ea_cons ev_c (ea_cons ev_c ea_nil)) ⟨by decide, by decide, by decide, by decide⟩ (fun _ => rfl) (fun _ _ _ _ => et_yes) (fun k H7 e7 hk _ => ?_)
        have hk28 : k < 28 := hk
        refine ev_joinL (K := K) ev_c (by
          rw [← given_S]
          refine el_lcS (fun _ => true) (fun i => V.str (S (g1 (1 + k) i))) (ev_var rfl) (by omega) (fun _ => rfl) (fun _ _ _ _ _ => et_yes) (fun i c H8 e8 hc _ => ?_)
          have hg : g1 (1 + k) i = (List.replicate ((1 : Int) + (k : Int)).toNat [c]).flatten := by
            show (List.replicate (min (1 + k) 100) (match l[i]? with | some c => [c] | none => [])).flatten = _
            rw [hc]
            have e1 : min (1 + k) 100 = 1 + k := by omega
            have e2 : ((1 : Int) + (k : Int)).toNat = 1 + k := by omega
            rw [e1, e2]
          rw [hg]
          exact ev_op (ev_var rfl) (ev_var rfl) (rv_repS (by omega) (by omega) (by show 1 * _ ≤ _; omega))) (Nat.le_trans (sum_range _ 100 (g1l (1 + k)) _) (by have := Nat.mul_le_mul_right 100 l100; omega))) (Nat.le_trans (sum_range g2 10000 g2l 28) (by decide))) fun H7 e7 => ⟨_, x, rfl, (e05.trans e6).trans e7, ?_, Sub.flat fun k _ => Sub.flat fun i _ => by
        show Sub ((List.replicate (min (1 + k) 100) (match l[i]? with | some c => [c] | none => [])).flatten) l
        refine Sub.rep _ ?_
        cases hli : l[i]? with
        | none => exact Sub.nil _
        | some c => exact Sub.one (List.mem_of_getElem? hli)⟩
      exact Nat.le_trans (len_range_le g2 10000 g2l 28) (by decide)
    clear e05 sm hm x m
    rintro σ' H5 ⟨m, x, rfl, e05, hm, sm⟩
    -- 19
    refine q_cutIf M (et_test (ev_op (ev_op (ev_var rfl) ev_c (rv_ixL (K := K) (ex_l e05 hS) (at_d (i := 0) (by omega)))) ev_c (rv_eq rfl))) (fun _ H6 e6 => ?_) (fun H6 e6 => ⟨m, x, rfl, e05.trans e6, hm, sm⟩) ?_
    · have c1 := cutL_len fr none (some (wd / 2))
      have c2 := cutL_len fr none (some (1 : Int))
      have h2 : (cutL fr none (some (wd / 2))).length * (Int.toNat 2) ≤ 400 * 2 := Nat.mul_le_mul_right _ (by omega)
      refine s_asg (ev_op (ev_op (ev_slS (ev_var rfl) eo_none (eo_some (ev_op (ev_var rfl) ev_c (rv_I ⟨by decide, by decide⟩))) (by omega)) ev_c (rv_repS (by decide) (by decide) (by omega))) (ev_slS (ev_var rfl) eo_none (eo_some ev_c) (by omega)) (rv_addS (by
        rw [List.length_flatten, List.map_replicate, List.sum_replicate_nat, Nat.mul_comm]
        omega))) fun H7 e7 => ⟨_, x, rfl, (e05.trans e6).trans e7, ?_, Sub.app (Sub.rep _ ((Sub.cut _ _ _).trans sfr)) ((Sub.cut _ _ _).trans sfr)⟩
      rw [List.length_append, List.length_flatten, List.map_replicate, List.sum_replicate_nat, Nat.mul_comm]
      omega
    clear e05 sm hm x m
    rintro σ' H5 ⟨m, x, rfl, e05, hm, sm⟩
    -- > 19
    refine q_cutIf M (et_test (ev_op (ev_op (ev_var rfl) ev_c (rv_ixL (K := K) (ex_l e05 hS) (at_d (i := 0) (by omega)))) ev_c rv_I0)) (fun _ H6 e6 => ?_) (fun H6 e6 => ⟨m, x, rfl, e05.trans e6, hm, sm⟩) ?_
    · let g3 : Nat → List Nat := fun k => cutL fr none (some ((1 : Int) + (k : Int)))
      have g3l : ∀ k, (g3 k).length ≤ 400 := fun k => by have := cutL_len fr none (some ((1 : Int) + (k : Int))); show (cutL fr none (some ((1 : Int) + (k : Int)))).length ≤ _; omega
      refine s_asg (v := .str (S ((List.range 28).map g3).flatten)) (ev_joinL (K := K) ev_c (by
        rw [← given_S]
        exact el_lcR2 (lo := 1) (n := 29) (fun _ => true) (fun i => V.str (S (g3 i))) (ea_cons ev_c (ea_cons ev_c ea_nil)) ⟨by decide, by decide, by decide, by decide⟩ (fun _ => rfl) (fun _ _ _ _ => et_yes) (fun k H7 e7 hk _ => ev_slS (ev_var rfl) eo_none (eo_some (ev_var rfl)) (by omega))) (Nat.le_trans (sum_range g3 400 g3l 28) (by decide))) fun H7 e7 => ⟨_, x, rfl, (e05.trans e6).trans e7, Nat.le_trans (len_range_le g3 400 g3l 28) (by decide), Sub.flat fun k _ => (Sub.cut _ _ _).trans sfr⟩
    clear e05 sm hm x m
    rintro σ' H5 ⟨m, x, rfl, e05, hm, sm⟩
    refine s_ret (ev_slS (ev_var rfl) eo_none (eo_some (ev_var rfl)) (by omega)) fun H6 e6 => q _ ?_ ((Sub.cut _ _ _).trans sm) H6 (e05.trans e6)
    rw [cutL_to wd0, List.length_take]
    omega
end
end My

set_option Elab.async false
set_option linter.all false
set_option maxRecDepth 100000
set_option maxHeartbeats 4000000
namespace My
open PySem PySem.Spec PyProof.Rows L2 Evl
open SX (S S_len S_cat S_beq S_beq_eq S_inj S_tl)

/-! ### dicts with words as keys -/
def idxW : Nat → List (List Nat) → List Nat → Option Nat
  | _, [], _ => none
  | n, p :: ps, w => if p = w then some n else idxW (n + 1) ps w
theorem idxW_some : ∀ {n : Nat} {ps : List (List Nat)} {w : List Nat} {k : Nat}, idxW n ps w = some k → n ≤ k ∧ ps[k - n]? = some w
  | n, [], w, k, h => by cases h
  | n, p :: ps, w, k, h => by
    unfold idxW at h
    by_cases e : p = w
    · rw [if_pos e] at h
      cases Option.some.inj h
      rw [Nat.sub_self]
      exact ⟨Nat.le_refl _, congrArg some e⟩
    · rw [if_neg e] at h
      obtain ⟨a, b⟩ := idxW_some h
      refine ⟨by omega, ?_⟩
      rw [show k - n = (k - (n + 1)) + 1 by omega]
      exact b
theorem idxW_none : ∀ {n : Nat} {ps : List (List Nat)} {w : List Nat}, idxW n ps w = none → w ∉ ps
  | n, [], w, h => List.not_mem_nil
  | n, p :: ps, w, h => by
    unfold idxW at h
    by_cases e : p = w
    · rw [if_pos e] at h; cases h
    · rw [if_neg e] at h
      intro hm
      rcases List.mem_cons.mp hm with rfl | hm
      · exact e rfl
      · exact idxW_none h hm
def wKV : Nat → List (List Nat) → List (Key × V)
  | _, [] => []
  | n, p :: ps => (Sum.inr (S p), .int (n : Int)) :: wKV (n + 1) ps
theorem inr_S {p w : List Nat} (h : (Sum.inr (S p) : Key) = Sum.inr (S w)) : p = w := S_inj (Sum.inr.inj h)
theorem wKV_at : ∀ (n : Nat) (ps : List (List Nat)) (w : List Nat), valV (wKV n ps) (Sum.inr (S w) : Key) = (idxW n ps w).map fun (k : Nat) => V.int (k : Int)
  | _, [], _ => rfl
  | n, p :: ps, w => by
    show valV (((Sum.inr (S p) : Key), V.int (n : Int)) :: wKV (n + 1) ps) (Sum.inr (S w)) = (idxW n (p :: ps) w).map fun (k : Nat) => V.int (k : Int)
    unfold idxW
    by_cases e : p = w
    · rw [if_pos e, valV_pos (by rw [e])]; rfl
    · rw [if_neg e, valV_neg (fun z => e (inr_S z)), wKV_at (n + 1) ps w]
theorem wKV_snoc : ∀ (n : Nat) (ps : List (List Nat)) (p : List Nat), wKV n (ps ++ [p]) = wKV n ps ++ [(Sum.inr (S p), .int ((n + ps.length : Nat) : Int))]
  | n, [], p => rfl
  | n, q :: ps, p => by
    show (Sum.inr (S q), _) :: wKV (n + 1) (ps ++ [p]) = _
    rw [wKV_snoc (n + 1) ps p, List.length_cons, show n + 1 + ps.length = n + (ps.length + 1) by omega]
    rfl
theorem wKV_len : ∀ (n : Nat) (ps : List (List Nat)), (wKV n ps).length = ps.length
  | _, [] => rfl
  | n, p :: ps => congrArg Nat.succ (wKV_len (n + 1) ps)
/-- a piece's text has its number -/
theorem idxW_piece {rows : List (Nat × Nat)} (nd : rows.Nodup) (hp : ParOk rows) {i : Nat} (hi : i ≤ rows.length) : idxW 0 (piF rows) ((piF rows).getD i []) = some i := by
  have hl := piF_len rows
  cases e : idxW 0 (piF rows) ((piF rows).getD i []) with
  | none =>
    have := idxW_none e
    rw [List.getD_eq_getElem?_getD, List.getElem?_eq_getElem (by omega)] at this
    exact absurd (List.getElem_mem (by omega)) this
  | some k =>
    obtain ⟨_, b⟩ := idxW_some e
    rw [Nat.sub_zero] at b
    have hk := (List.getElem?_eq_some_iff.mp b).1
    have hkd : (piF rows).getD k [] = (piF rows).getD i [] := by
      have h1 : (piF rows).getD k [] = ((piF rows)[k]?).getD [] := List.getD_eq_getElem?_getD
      rw [h1, b]
      rfl
    rw [piF_inj nd hp k i (by omega) hi hkd]
/-- a longer word is a piece where its row is there -/
theorem idxW_step {rows : List (Nat × Nat)} (nd : rows.Nodup) (hp : ParOk rows) {at_ c : Nat} (ha : at_ ≤ rows.length) : idxW 0 (piF rows) ((piF rows).getD at_ [] ++ [c]) = ixR 1 rows (at_, c) := by
  have hl := piF_len rows
  cases e : ixR 1 rows (at_, c) with
  | some k =>
    obtain ⟨a, b⟩ := ixR_some e
    have hk := (List.getElem?_eq_some_iff.mp b).1
    have hrow := piF_row hp b
    rw [show k - 1 + 1 = k by omega] at hrow
    have : (piF rows).getD k [] = (piF rows).getD at_ [] ++ [c] := hrow
    rw [← this]
    exact idxW_piece nd hp (by omega)
  | none =>
    have hn := ixR_none e
    cases e2 : idxW 0 (piF rows) ((piF rows).getD at_ [] ++ [c]) with
    | none => rfl
    | some k =>
      exfalso
      obtain ⟨_, b⟩ := idxW_some e2
      rw [Nat.sub_zero] at b
      have hk := (List.getElem?_eq_some_iff.mp b).1
      have hkd : (piF rows).getD k [] = (piF rows).getD at_ [] ++ [c] := by
        have h1 : (piF rows).getD k [] = ((piF rows)[k]?).getD [] := List.getD_eq_getElem?_getD
        rw [h1, b]
        rfl
      cases k with
      | zero =>
        rw [piF_zero] at hkd
        simp at hkd
      | succ k =>
        obtain ⟨r, hr⟩ : ∃ r, rows[k]? = some r := ⟨_, List.getElem?_eq_getElem (by omega)⟩
        have h1 := hp k r hr
        rw [piF_row hp hr] at hkd
        obtain ⟨e3, e4⟩ := List.append_inj' hkd rfl
        have e5 := piF_inj nd hp r.1 at_ (by omega) ha e3
        have e6 : r.2 = c := by simpa using e4
        exact hn (by rw [← e5, ← e6]; exact List.mem_of_getElem? hr)
section
variable {K : PySem.W.Frag} {σ : L2.St} {H : Hp} {ta tb te tv td ty : TE} {v : V} {D : Ends} {tu tz : TS}
theorem ev_dinK {d : Addr} {kvs : List (Key × V)} {w : List Nat} (ha : Ev ta σ H (.str (S w))) (hb : Ev tb σ H (.ref d)) (hd : H d = some (.dK kvs)) : Ev (tDIn ta tb) σ H (.bl (valV kvs (Sum.inr (S w) : Key)).isSome) := fun H1 e Q q =>
  ha H1 e _ fun H2 e2 => hb H2 (e.trans e2) _ fun H3 e3 => ⟨d, _, rfl, DGet.k (k := Sum.inr (S w)) (((e.trans e2).trans e3) _ _ hd), q H3 (e2.trans e3)⟩
theorem ev_dgetK {d : Addr} {kvs : List (Key × V)} {w : List Nat} (ho : Ev td σ H (.ref d)) (hi : Ev ty σ H (.str (S w))) (hd : H d = some (.dK kvs)) (hv : valV kvs (Sum.inr (S w) : Key) = some v) : Ev (tDGet td ty) σ H v := fun H1 e Q q =>
  ho H1 e _ fun H2 e2 => hi H2 (e.trans e2) _ fun H3 e3 => ⟨d, v, rfl, by rw [← hv]; exact DGet.k (k := Sum.inr (S w)) (((e.trans e2).trans e3) _ _ hd), q H3 (e2.trans e3)⟩
theorem q_dputK {d : Addr} {kvs : List (Key × V)} {w : List Nat} (hv : Ev tv σ H v) (ho : Ev td σ H (.ref d)) (hi : Ev ty σ H (.str (S w))) (hd : H d = some (.dK kvs)) (hl : kvs.length < sizeLine) (kk : ∀ H1, Ex H H1 → tz D σ (upd H1 d (.dK (putK kvs (Sum.inr (S w)) v)))) : tSeq (sDPut td ty tv) tz D σ H :=
  hv H (Ex.refl H) _ fun H1 e1 => ho H1 e1 _ fun H2 e2 => hi H2 (e1.trans e2) _ fun H3 e3 => ⟨d, _, rfl, DPut.k (k := Sum.inr (S w)) (((e1.trans e2).trans e3) _ _ hd) hl, kk H3 ((e1.trans e2).trans e3)⟩
theorem en_disp0 : EvN (tDisp [(tC (.str (S [])), tC (.int 0))]) σ H (.dK (wKV 0 [[]])) := fun H1 e Q q p hp => by
  refine ⟨upd_same, [(Sum.inr (S []), .int 0)], rfl, by decide, ?_⟩
  exact q p _ hp (fun b o hb => by
    have n : b ≠ p := fun z => by rw [z, hp] at hb; cases hb
    exact upd_Ne (upd_Ne hb n) n) upd_same
theorem s_retUVV {xs : List V} {u : V} (h : EvU te σ H xs) (ha : Ev ta σ H v) (hb : Ev tb σ H u) (k : ∀ kk p H2, H kk = none → H p = none → Ex H H2 → H2 kk = some (.tup xs) → H2 p = some (.lst [.ref kk, v, u]) → D.rt (.ref p) H2) : tRet (tLst (tCons te (tCons ta (tCons tb tNil)))) D σ H :=
  h H (Ex.refl H) _ fun kk H1 nk e1 hk => ha H1 e1 _ fun H2 e2 => hb H2 (e1.trans e2) _ fun H3 e3 => ⟨sz_of (n := 3) (by decide), fun p hp => by
    have e13 := e2.trans e3
    have np : H p = none := fresh_back (e1.trans e13) hp
    refine k kk p _ nk np ((e1.trans e13).trans (Ex.new hp)) ?_ upd_same
    have n : kk ≠ p := fun z => by rw [← z, e13 _ _ hk] at hp; cases hp
    exact upd_Ne (e13 _ _ hk) n⟩
end
section
variable {P : Program} {w : World} {K : PySem.W.Frag} {mg : Str → Option Value} {base : Heap}

variable {CG CC : Addr}
abbrev s_law_cut : Stmt := top 39
abbrev N_law_cut : List Str := ["text", "pieces", "number", "rows", "word", "letter"]
theorem sc_law_cut : FnScope N_law_cut ["text"] (defScope s_law_cut) := ⟨rfl, rfl, rfl, by decide +kernel, rfl, by decide +kernel, by decide +kernel⟩
def spLC : Sp := fun vs H Q _ => ∃ text : List Nat, vs = [.str (S text)] ∧ text.length ≤ 4000 ∧ ∀ (p k pl : Addr) (rs : List Addr) (H' : Hp), H p = none → Ex H H' → H' p = some (.lst [.ref k, .int ((cutC text).2 : Int), .ref pl]) → H' k = some (.tup (rV rs)) → RowsAt H' rs (cutC text).1 → H' pl = some (.lst (sV (piF (cutC text).1))) → Q (.ref p) H'
theorem ok_law_cut (T : TC K mg CG CC) (F : At K mg "_law_cut" s_law_cut) : Dn P w K mg base 1 "_law_cut" s_law_cut ["text"] spLC := by
  refine dn_ok F sc_law_cut (fun _ _ _ _ _ _ us hl => match us, hl with | [_], _ => rfl) (fun vs H Q E h => ?_) (fun f cdv A outer t H vs Q E hr h => ?_)
  · obtain ⟨text, rfl, _⟩ := h; rfl
  · obtain ⟨text, rfl, hlen, q⟩ := h
    refine ⟨_, (pss_cons (ps_set (i := 1) sc_law_cut.nd rfl (Or.inl rfl) (pe_lst (pa_cons pe_str pa_nil)))
      (pss_cons (ps_set (i := 2) sc_law_cut.nd rfl (Or.inl rfl) (pe_disp (pps_cons pe_str pe_int pps_nil) (by rfl) (by rfl) (by simp) (by decide)))
      (pss_cons (ps_set (i := 3) sc_law_cut.nd rfl (Or.inl rfl) (pe_lst pa_nil))
      (pss_cons (ps_set (i := 4) sc_law_cut.nd rfl (Or.inl rfl) pe_str)
      (pss_cons (ps_for PassesOwn.never rfl (pi_str (pv 0)) (pg_name (i := 5) sc_law_cut.nd rfl (Or.inl rfl))
        (pss_one (ps_if (pt_cmp (pc_din (hu_of hr) (pe_op op_add_str (pv 4) (pv 5)) (pv 2))) (pss_one (ps_set (i := 4) sc_law_cut.nd rfl (Or.inl rfl) (pe_op op_add_str (pv 4) (pv 5)))) (pss_cons (ps_expr (pe_bm PySem.F.plainAttrs_list PySem.F.slot_list_append PySem.F.type_list_append mt_append (pv 3) (pa_cons (pe_tup (pa_cons (pe_dget (hu_of hr) (pv 2) (pv 4) (fun _ _ => rfl)) (pa_cons (pv 5) pa_nil))) pa_nil)))
            (pss_cons (ps_dput (hu_of hr) (pv 2) (pe_op op_add_str (pv 4) (pv 5)) (pe_callB call_len_seq (by rfl) T.len boot_len (pa_cons (pv 1) pa_nil)) rfl)
            (pss_cons (ps_expr (pe_bm PySem.F.plainAttrs_list PySem.F.slot_list_append PySem.F.type_list_append mt_append (pv 1) (pa_cons (pe_op op_add_str (pv 4) (pv 5)) pa_nil)))
            (pss_one (ps_set (i := 4) sc_law_cut.nd rfl (Or.inl rfl) pe_str))))))))
      (pss_one (ps_ret (pe_lst (pa_cons (pe_callTy call_tuple_of (by rfl) T.tuple_ (by decide +kernel) (pa_cons (pv 3) pa_nil)) (pa_cons (pe_dget (hu_of hr) (pv 2) (pv 4) (fun _ _ => rfl)) (pa_cons (pv 1) pa_nil))))))))))), ?_⟩
    refine q_asgL (xs := sV (piF [])) (el_lst (ea_cons ev_c ea_nil) (by show 1 ≤ 100000; decide)) fun pl H1 npl e1 hpl => ?_
    refine q_asgN en_disp0 fun d H2 nd e2 hd => ?_
    refine q_asgL (el_lst ea_nil (by decide)) fun rl H3 nrl e3 hrl => ?_
    refine q_asg (v := .str (S [])) (ev_is ev_c rfl) fun H4 e4 => ?_
    have e14 := ((e1.trans e2).trans e3).trans e4
    have npd : pl ≠ d := fun z => by rw [← z, hpl] at nd; cases nd
    have npr : pl ≠ rl := fun z => by rw [← z, e2 _ _ hpl] at nrl; cases nrl
    have ndr : d ≠ rl := fun z => by rw [← z, hd] at nrl; cases nrl
    have nd0 : H d = none := fresh_back e1 nd
    have nrl0 : H rl = none := fresh_back (e1.trans e2) nrl
    refine q_forS (ev_var rfl) (fun i σ' H' => ∃ (rs : List Addr) (x : Option V), σ' = [some (.str (S text)), some (.ref pl), some (.ref d), some (.ref rl), some (.str (S ((piF (cutC (text.take i)).1).getD (cutC (text.take i)).2 []))), x] ∧ Ex H H' ∧ H' pl = some (.lst (sV (piF (cutC (text.take i)).1))) ∧ H' d = some (.dK (wKV 0 (piF (cutC (text.take i)).1))) ∧ H' rl = some (.lst (rV rs)) ∧ RowsAt H' rs (cutC (text.take i)).1)
      (fun H5 e5 => ⟨[], none, rfl, e14.trans e5, e5 _ _ (e4 _ _ (e3 _ _ (e2 _ _ hpl))), e5 _ _ (e4 _ _ (e3 _ _ hd)), e5 _ _ (e4 _ _ hrl), trivial⟩) ?_ ?_
    · rintro i c σ' H' hc ⟨rs, x, rfl, e, h1, h2, h3, R⟩
      rw [S_get] at hc
      have hi := (List.getElem?_eq_some_iff.mp hc).1
      have htk := take_snoc hc
      have hst : cutC (text.take (i + 1)) = stepC (cutC (text.take i)) c := by rw [htk, cutC_snoc]
      have C := cutOk (text.take i)
      have hcl := cutC_len (text.take i)
      rw [List.length_take] at hcl
      rw [hst]
      generalize cutC (text.take i) = cc at C hcl h1 h2 h3 R ⊢
      obtain ⟨rows, at_⟩ := cc
      show tIfS _ _ _ _ [some (V.str (S text)), some (V.ref pl), some (V.ref d), some (V.ref rl), some (V.str (S ((piF rows).getD at_ []))), some (V.str (S [c]))] H'
      have hat : at_ ≤ rows.length := C.at_le
      have hsh : ((piF rows).getD at_ []).length ≤ at_ := piF_short C.par at_ hat
      have hlen5 : rows.length ≤ 4000 := by have : rows.length ≤ min i text.length := hcl; omega
      have hpl1 := piF_len rows
      have hidx := idxW_step C.nd C.par (c := c) hat
      have hself := idxW_piece C.nd C.par hat
      have hw : ∀ {H5 : Hp}, Ev (tOp rAddS (tVar 4) (tVar 5)) [some (V.str (S text)), some (V.ref pl), some (V.ref d), some (V.ref rl), some (V.str (S ((piF rows).getD at_ []))), some (V.str (S [c]))] H5 (.str (S ((piF rows).getD at_ [] ++ [c]))) := ev_op (ev_var rfl) (ev_var rfl) (rv_addS (by show _ + 1 ≤ 1000000; omega))
      refine s_if (et_B (ev_dinK hw (ev_var rfl) h2)) (fun hb H5 e5 => ?_) (fun hb H5 e5 => ?_)
      · rw [wKV_at, hidx] at hb
        cases hk : ixR 1 rows (at_, c) with
        | none => rw [hk] at hb; cases hb
        | some k =>
          have hs : stepC (rows, at_) c = (rows, k) := by unfold stepC; simp only [hk]
          obtain ⟨a, b⟩ := ixR_some hk
          have hrow := piF_row C.par b
          rw [show k - 1 + 1 = k by omega] at hrow
          have hrow' : (piF rows).getD k [] = (piF rows).getD at_ [] ++ [c] := hrow
          refine s_asg hw fun H6 e6 => ⟨rs, some (V.str (S [c])), ?_, e.trans (e5.trans e6), ?_, ?_, (e5.trans e6) _ _ h3, ?_⟩
          · rw [hs, hrow']; rfl
          · rw [hs]; exact (e5.trans e6) _ _ h1
          · rw [hs]; exact (e5.trans e6) _ _ h2
          · rw [hs]; exact R.ex (e5.trans e6)
      · rw [wKV_at, hidx] at hb
        have hk : ixR 1 rows (at_, c) = none := by
          cases z : ixR 1 rows (at_, c) with
          | none => rfl
          | some k => rw [z] at hb; cases hb
        have hs : stepC (rows, at_) c = (rows ++ [(at_, c)], 0) := by unfold stepC; simp only [hk]
        have h2' := e5 _ _ h2
        refine q_appU (ys := rowV (at_, c)) (e5 _ _ h3) (ev_var rfl) (eu_tup (ea_cons (ev_dgetK (ev_var rfl) (ev_var rfl) h2' (by rw [wKV_at, hself]; rfl)) (ea_cons (ev_var rfl) ea_nil)) (by show 2 ≤ 100000; decide)) (by rw [List.length_map, R.len]; omega) fun r H6 nr e6 hr6 => ?_
        have nrr : r ≠ rl := fun z => by rw [z, e5 _ _ h3] at nr; cases nr
        have nrd : r ≠ d := fun z => by rw [z, h2'] at nr; cases nr
        have nrp : r ≠ pl := fun z => by rw [z, e5 _ _ h1] at nr; cases nr
        have e56 := e5.trans e6
        have g1 : (upd H6 rl (.lst (rV rs ++ [.ref r]))) pl = some (.lst (sV (piF rows))) := upd_Ne (e56 _ _ h1) npr
        have g2 : (upd H6 rl (.lst (rV rs ++ [.ref r]))) d = some (.dK (wKV 0 (piF rows))) := upd_Ne (e56 _ _ h2) ndr
        have g3 : (upd H6 rl (.lst (rV rs ++ [.ref r]))) rl = some (.lst (rV (rs ++ [r]))) := by rw [upd_same]; simp [rV]
        have hnrl : ∀ {H7 : Hp} {xs : List V}, H7 rl = some (.lst xs) → ∀ ys, H7 rl ≠ some (.tup ys) := fun h ys z => by rw [h] at z; cases Option.some.inj z
        have g4 : RowsAt (upd H6 rl (.lst (rV rs ++ [.ref r]))) (rs ++ [r]) (rows ++ [(at_, c)]) := by
          refine RowsAt.snoc (upd_Ne hr6 nrr) ?_
          exact (R.ex e56).but (p := rl) (l := rl) (d := rl) (fun b o hb h1 _ _ => upd_Ne hb h1) (hnrl (e56 _ _ h3)) (hnrl (e56 _ _ h3)) (hnrl (e56 _ _ h3))
        have g5 : Ex H (upd H6 rl (.lst (rV rs ++ [.ref r]))) := Ex.mut (e.trans e56) nrl0
        generalize upd H6 rl (.lst (rV rs ++ [.ref r])) = H7 at g1 g2 g3 g4 g5 ⊢
        have elen : ((sV (piF rows)).length : Int) = ((0 + (piF rows).length : Nat) : Int) := by rw [List.length_map, Nat.zero_add]
        refine q_dputK (ev_is (ev_len (K := K) (ev_var rfl) (sq_of g1)) (congrArg V.int elen)) (ev_var rfl) hw g2 (by rw [wKV_len]; show _ < 16777216; omega) fun H8 e8 => ?_
        have hnone : valV (wKV 0 (piF rows)) (Sum.inr (S ((piF rows).getD at_ [] ++ [c])) : Key) = none := by rw [wKV_at, hidx, hk]; rfl
        rw [putK_new _ hnone, ← wKV_snoc]
        have hps : piF (rows ++ [(at_, c)]) = piF rows ++ [(piF rows).getD at_ [] ++ [c]] := piF_snoc rows (at_, c)
        rw [← hps]
        have k1 : (upd H8 d (.dK (wKV 0 (piF (rows ++ [(at_, c)]))))) pl = some (.lst (sV (piF rows))) := upd_Ne (e8 _ _ g1) npd
        have k2 : (upd H8 d (.dK (wKV 0 (piF (rows ++ [(at_, c)]))))) d = some (.dK (wKV 0 (piF (rows ++ [(at_, c)])))) := upd_same
        have k3 : (upd H8 d (.dK (wKV 0 (piF (rows ++ [(at_, c)]))))) rl = some (.lst (rV (rs ++ [r]))) := upd_Ne (e8 _ _ g3) ndr.symm
        have hnd : ∀ ys, H8 d ≠ some (.tup ys) := fun ys z => by rw [e8 _ _ g2] at z; cases Option.some.inj z
        have k4 : RowsAt (upd H8 d (.dK (wKV 0 (piF (rows ++ [(at_, c)]))))) (rs ++ [r]) (rows ++ [(at_, c)]) := (g4.ex e8).but (p := d) (l := d) (d := d) (fun b o hb h1 _ _ => upd_Ne hb h1) hnd hnd hnd
        have k5 : Ex H (upd H8 d (.dK (wKV 0 (piF (rows ++ [(at_, c)]))))) := Ex.mut (g5.trans e8) nd0
        generalize upd H8 d (.dK (wKV 0 (piF (rows ++ [(at_, c)])))) = H9 at k1 k2 k3 k4 k5 ⊢
        refine q_app k1 (ev_var rfl) hw (by rw [List.length_map]; omega) fun H10 e10 => ?_
        have m1 : (upd H10 pl (.lst (sV (piF rows) ++ [.str (S ((piF rows).getD at_ [] ++ [c]))]))) pl = some (.lst (sV (piF (rows ++ [(at_, c)])))) := by rw [upd_same, hps]; simp [sV]
        have m2 : (upd H10 pl (.lst (sV (piF rows) ++ [.str (S ((piF rows).getD at_ [] ++ [c]))]))) d = some (.dK (wKV 0 (piF (rows ++ [(at_, c)])))) := upd_Ne (e10 _ _ k2) npd.symm
        have m3 : (upd H10 pl (.lst (sV (piF rows) ++ [.str (S ((piF rows).getD at_ [] ++ [c]))]))) rl = some (.lst (rV (rs ++ [r]))) := upd_Ne (e10 _ _ k3) npr.symm
        have hnp : ∀ ys, H10 pl ≠ some (.tup ys) := fun ys z => by rw [e10 _ _ k1] at z; cases Option.some.inj z
        have m4 : RowsAt (upd H10 pl (.lst (sV (piF rows) ++ [.str (S ((piF rows).getD at_ [] ++ [c]))]))) (rs ++ [r]) (rows ++ [(at_, c)]) := (k4.ex e10).but (p := pl) (l := pl) (d := pl) (fun b o hb h1 _ _ => upd_Ne hb h1) hnp hnp hnp
        have m5 : Ex H (upd H10 pl (.lst (sV (piF rows) ++ [.str (S ((piF rows).getD at_ [] ++ [c]))]))) := Ex.mut (k5.trans e10) npl
        generalize upd H10 pl (.lst (sV (piF rows) ++ [.str (S ((piF rows).getD at_ [] ++ [c]))])) = H11 at m1 m2 m3 m4 m5 ⊢
        refine s_asg (v := .str (S [])) (ev_is ev_c rfl) fun H12 e12 => ⟨rs ++ [r], some (V.str (S [c])), ?_, m5.trans e12, ?_, ?_, e12 _ _ m3, ?_⟩
        · rw [hs]
          show _ = [some (V.str (S text)), some (V.ref pl), some (V.ref d), some (V.ref rl), some (V.str (S ((piF (rows ++ [(at_, c)])).getD 0 []))), some (V.str (S [c]))]
          rw [piF_zero]
          rfl
        · rw [hs]; exact e12 _ _ m1
        · rw [hs]; exact e12 _ _ m2
        · rw [hs]; exact m4.ex e12
    · rintro σ' H' ⟨rs, x, rfl, e, h1, h2, h3, R⟩
      rw [S_size, List.take_length] at h1 h2 R
      rw [S_size, List.take_length]
      have C := cutOk text
      have hself := idxW_piece C.nd C.par C.at_le
      exact s_retUVV (eu_tupOf (ev_var rfl) (sq_of h3)) (ev_dgetK (ev_var rfl) (ev_var rfl) h2 (by rw [wKV_at, hself]; rfl)) (ev_var rfl) fun kk p H2 nk np e2 hk hp => q p kk pl rs H2 (fresh_back e np) (e.trans e2) hp hk (R.ex e2) (e2 _ _ h1)
end
end My

set_option Elab.async false
set_option linter.all false
set_option maxRecDepth 100000
set_option maxHeartbeats 4000000
namespace My
/-! ### how many texts have 1 to w letters, and how many letters they have together -/
def Sn (s : Nat) : Nat → Nat
  | 0 => 0
  | w + 1 => Sn s w + s ^ (w + 1)
def Bn (s : Nat) : Nat → Nat
  | 0 => 0
  | w + 1 => Bn s w + (w + 1) * s ^ (w + 1)
/-- t is the least total of c texts -/
def Tot (s c t : Nat) : Prop := ∃ w j, c = Sn s w + j ∧ j ≤ s ^ (w + 1) ∧ t = Bn s w + (w + 1) * j
theorem Sn_mono {s : Nat} : ∀ {v w : Nat}, v ≤ w → Sn s v ≤ Sn s w
  | v, 0, h => by
    have : v = 0 := by omega
    rw [this]
    exact Nat.le_refl _
  | v, w + 1, h => by
    by_cases e : v = w + 1
    · rw [e]
      exact Nat.le_refl _
    · exact Nat.le_trans (Sn_mono (v := v) (w := w) (by omega)) (Nat.le_add_right _ _)
theorem Bn_mono {s : Nat} : ∀ {v w : Nat}, v ≤ w → Bn s v ≤ Bn s w
  | v, 0, h => by
    have : v = 0 := by omega
    rw [this]
    exact Nat.le_refl _
  | v, w + 1, h => by
    by_cases e : v = w + 1
    · rw [e]
      exact Nat.le_refl _
    · exact Nat.le_trans (Bn_mono (v := v) (w := w) (by omega)) (Nat.le_add_right _ _)
theorem pow_pos' {s : Nat} (h : 1 ≤ s) (w : Nat) : 1 ≤ s ^ w := Nat.one_le_pow _ _ h
/-- fewer texts have fewer letters -/
theorem tot_le {s c d t u : Nat} (hs : 1 ≤ s) (h1 : Tot s c t) (h2 : Tot s d u) (h : c ≤ d) : t ≤ u := by
  obtain ⟨w, j, e1, hj, rfl⟩ := h1
  obtain ⟨v, i, e2, hi, rfl⟩ := h2
  by_cases hw : w < v
  · have a := Bn_mono (s := s) (show w + 1 ≤ v by omega)
    have b : (w + 1) * j ≤ (w + 1) * s ^ (w + 1) := Nat.mul_le_mul_left _ hj
    have c : Bn s (w + 1) = Bn s w + (w + 1) * s ^ (w + 1) := rfl
    omega
  · by_cases hv : v < w
    · have a := Sn_mono (s := s) (show v + 1 ≤ w by omega)
      have b : Sn s (v + 1) = Sn s v + s ^ (v + 1) := rfl
      have hi2 : i = s ^ (v + 1) := by omega
      have hj0 : j = 0 := by omega
      have hS : Sn s w = Sn s (v + 1) := by omega
      have hvw : w = v + 1 := by
        by_cases z : v + 2 ≤ w
        · have c1 := Sn_mono (s := s) z
          have c2 : Sn s (v + 2) = Sn s (v + 1) + s ^ (v + 2) := rfl
          have c3 := pow_pos' hs (v + 2)
          omega
        · omega
      subst hvw hi2 hj0
      exact Nat.le_of_eq rfl
    · have : w = v := by omega
      subst this
      have hji : j ≤ i := by omega
      exact Nat.add_le_add_left (Nat.mul_le_mul_left _ hji) _
theorem tot_uniq {s c t u : Nat} (hs : 1 ≤ s) (h1 : Tot s c t) (h2 : Tot s c u) : t = u :=
  Nat.le_antisymm (tot_le hs h1 h2 (Nat.le_refl _)) (tot_le hs h2 h1 (Nat.le_refl _))
theorem tot_succ {s w j : Nat} (hs : 1 ≤ s) (hj : j ≤ s ^ (w + 1)) : ∃ k, Tot s (Sn s w + j + 1) (Bn s w + (w + 1) * j + k) ∧ w + 1 ≤ k := by
  by_cases e : j = s ^ (w + 1)
  · refine ⟨w + 2, ⟨w + 1, 1, ?_, pow_pos' hs _, ?_⟩, by omega⟩
    · show _ = Sn s w + s ^ (w + 1) + 1
      omega
    · show _ = Bn s w + (w + 1) * s ^ (w + 1) + (w + 1 + 1) * 1
      rw [e]
      omega
  · refine ⟨w + 1, ⟨w, j + 1, by omega, by omega, ?_⟩, Nat.le_refl _⟩
    rw [Nat.mul_add]
    omega
/-- one text more has more letters -/
theorem tot_lt {s c d t u : Nat} (hs : 1 ≤ s) (h1 : Tot s c t) (h2 : Tot s d u) (h : c < d) : t < u := by
  obtain ⟨w, j, e1, hj, e3⟩ := h1
  obtain ⟨k, h3, hk⟩ := tot_succ hs hj
  have := tot_le hs h3 h2 (by omega)
  omega
/-- each depth bounds the total from below -/
theorem tot_depth {s c t : Nat} (hs : 1 ≤ s) (h : Tot s c t) : ∀ d, (d + 1) * c ≤ t + (d + 1) * Sn s d := by
  obtain ⟨w, j, rfl, hj, rfl⟩ := h
  have key : ∀ w, ∀ d, (d + 1) * Sn s w ≤ Bn s w + (d + 1) * Sn s d := by
    intro w
    induction w with
    | zero => intro d; simp [Sn]
    | succ w ih =>
      intro d
      by_cases hd : w + 1 ≤ d
      · have := Sn_mono (s := s) hd
        have := Nat.mul_le_mul_left (d + 1) this
        omega
      · have a := ih d
        have b : (d + 1) * s ^ (w + 1) ≤ (w + 1) * s ^ (w + 1) := Nat.mul_le_mul_right _ (by omega)
        show (d + 1) * (Sn s w + s ^ (w + 1)) ≤ Bn s w + (w + 1) * s ^ (w + 1) + _
        rw [Nat.mul_add]
        omega
  intro d
  by_cases hd : w < d
  · have a : Sn s w + j ≤ Sn s d := by
      have := Sn_mono (s := s) (show w + 1 ≤ d by omega)
      have c : Sn s (w + 1) = Sn s w + s ^ (w + 1) := rfl
      omega
    have := Nat.mul_le_mul_left (d + 1) a
    omega
  · have a := key w d
    have b : (d + 1) * j ≤ (w + 1) * j := Nat.mul_le_mul_right _ (by omega)
    rw [Nat.mul_add]
    omega
/-! ### one letter -/
theorem Sn_one : ∀ w, Sn 1 w = w
  | 0 => rfl
  | w + 1 => by show Sn 1 w + 1 ^ (w + 1) = w + 1; rw [Sn_one w, Nat.one_pow]
theorem Bn_one : ∀ w, 2 * Bn 1 w = w * (w + 1)
  | 0 => rfl
  | w + 1 => by
    show 2 * (Bn 1 w + (w + 1) * 1 ^ (w + 1)) = (w + 1) * (w + 1 + 1)
    rw [Nat.one_pow, Nat.mul_add, Bn_one w, Nat.mul_one, ← Nat.add_mul, Nat.mul_comm]
theorem tot_one (c : Nat) : Tot 1 c (c * (c + 1) / 2) := by
  refine ⟨c, 0, by rw [Sn_one]; rfl, Nat.zero_le _, ?_⟩
  have := Bn_one c
  omega
/-- fewer letters, no more texts: with one letter they are the longest -/
theorem tot_base {s c t u : Nat} (hs : 1 ≤ s) (h : Tot s c t) (h1 : Tot 1 c u) : t ≤ u := by
  obtain ⟨w, j, rfl, hj, rfl⟩ := h
  have key : ∀ w, w ≤ Sn s w := by
    intro w
    induction w with
    | zero => exact Nat.le_refl _
    | succ w ih =>
      have := pow_pos' hs (w + 1)
      show w + 1 ≤ Sn s w + s ^ (w + 1)
      omega
  -- by counting: the total is at most that of one letter, text by text
  have tri : ∀ n m, n * (n + 1) + 2 * ((n + 1) * m) ≤ (n + m) * (n + m + 1) := by
    intro n m
    have e : (n + m) * (n + m + 1) = n * (n + 1) + 2 * ((n + 1) * m) + m * (m - 1) := by
      cases m with
      | zero => simp
      | succ m =>
        have : (n + (m + 1)) * (n + (m + 1) + 1) = n * (n + 1) + 2 * ((n + 1) * (m + 1)) + (m + 1) * m := by
          simp only [Nat.mul_add, Nat.add_mul, Nat.mul_one, Nat.one_mul]
          have : m * n = n * m := Nat.mul_comm _ _
          omega
        exact this
    omega
  have hB : ∀ w, 2 * Bn s w ≤ Sn s w * (Sn s w + 1) := by
    intro w
    induction w with
    | zero => exact Nat.le_refl _
    | succ w ih =>
      have a := tri (Sn s w) (s ^ (w + 1))
      have b : (w + 1) * s ^ (w + 1) ≤ (Sn s w + 1) * s ^ (w + 1) := Nat.mul_le_mul_right _ (by have := key w; omega)
      show 2 * (Bn s w + (w + 1) * s ^ (w + 1)) ≤ (Sn s w + s ^ (w + 1)) * (Sn s w + s ^ (w + 1) + 1)
      omega
  have hu := tot_uniq (by decide) h1 (tot_one _)
  have a := tri (Sn s w) j
  have b : (w + 1) * j ≤ (Sn s w + 1) * j := Nat.mul_le_mul_right _ (by have := key w; omega)
  have c := hB w
  omega
end My

set_option Elab.async false
set_option linter.all false
set_option maxRecDepth 100000
set_option maxHeartbeats 4000000
namespace My
theorem tot_ex {s : Nat} (hs : 1 ≤ s) : ∀ c, ∃ t, Tot s c t
  | 0 => ⟨0, 0, 0, rfl, Nat.zero_le _, rfl⟩
  | c + 1 => by
    obtain ⟨t, w, j, e, hj, _⟩ := tot_ex hs c
    obtain ⟨k, h, _⟩ := tot_succ hs hj
    exact ⟨_, by rw [e]; exact h⟩
open Classical in
noncomputable def totF (s c : Nat) : Nat := if h : ∃ t, Tot s c t then h.choose else 0
theorem totF_spec {s c : Nat} (hs : 1 ≤ s) : Tot s c (totF s c) := by
  unfold totF
  rw [dif_pos (tot_ex hs c)]
  exact (tot_ex hs c).choose_spec
theorem totF_is {s c t : Nat} (hs : 1 ≤ s) (h : Tot s c t) : totF s c = t := tot_uniq hs (totF_spec hs) h
theorem totF_lt {s c d : Nat} (hs : 1 ≤ s) (h : c < d) : totF s c < totF s d := tot_lt hs (totF_spec hs) (totF_spec hs) h
theorem totF_le {s c d : Nat} (hs : 1 ≤ s) (h : c ≤ d) : totF s c ≤ totF s d := tot_le hs (totF_spec hs) (totF_spec hs) h
theorem totF_ge {s c : Nat} (hs : 1 ≤ s) : c ≤ totF s c := by
  have := tot_depth hs (totF_spec (c := c) hs) 0
  simp [Sn] at this
  exact this
/-- the greatest count of so many letters -/
def Gr (s far c : Nat) : Prop := totF s c ≤ far ∧ far < totF s (c + 1)
theorem gr_uniq {s far c d : Nat} (hs : 1 ≤ s) (h1 : Gr s far c) (h2 : Gr s far d) : c = d := by
  by_cases a : c < d
  · have := totF_le hs (show c + 1 ≤ d by omega)
    have := h1.2
    have := h2.1
    omega
  · by_cases b : d < c
    · have := totF_le hs (show d + 1 ≤ c by omega)
      have := h1.1
      have := h2.2
      omega
    · omega
theorem gr_loop {s w rest far : Nat} (hs : 1 ≤ s) (h : far = Bn s w + rest) (hr : rest ≤ s ^ (w + 1) * (w + 1)) : Gr s far (Sn s w + rest / (w + 1)) := by
  have hj : rest / (w + 1) ≤ s ^ (w + 1) := by
    apply Nat.div_le_of_le_mul
    rw [Nat.mul_comm]
    exact hr
  have h1 : Tot s (Sn s w + rest / (w + 1)) (Bn s w + (w + 1) * (rest / (w + 1))) := ⟨w, _, rfl, hj, rfl⟩
  obtain ⟨k, h2, hk⟩ := tot_succ hs hj
  have a := Nat.div_mul_le_self rest (w + 1)
  have b := Nat.lt_div_mul_add (a := rest) (b := w + 1) (by omega)
  rw [Nat.mul_comm] at a b
  refine ⟨?_, ?_⟩
  · rw [totF_is hs h1]
    omega
  · rw [totF_is hs h2]
    omega
theorem sq_step (a b : Nat) (h : a ≤ b) : a * a ≤ b * b := Nat.mul_le_mul h h
theorem gr_one {L r : Nat} (h1 : r * r ≤ 8 * L + 1) (h2 : 8 * L + 1 < (r + 1) * (r + 1)) : Gr 1 L ((r - 1) / 2) := by
  have hr : 1 ≤ r := by
    by_cases z : r = 0
    · subst z; simp at h2
    · omega
  obtain ⟨n, hn⟩ : ∃ n, n = (r - 1) / 2 := ⟨_, rfl⟩
  rw [← hn]
  have a : 2 * n + 1 ≤ r := by omega
  have b : r + 1 ≤ 2 * n + 3 := by omega
  have a2 := sq_step _ _ a
  have b2 := sq_step _ _ b
  have e1 : (2 * n + 1) * (2 * n + 1) = 4 * (n * (n + 1)) + 1 := by
    simp only [Nat.mul_add, Nat.add_mul, Nat.mul_one, Nat.one_mul]
    have : 2 * n * (2 * n) = 4 * (n * n) := by rw [Nat.mul_mul_mul_comm]
    omega
  have e2 : (2 * n + 3) * (2 * n + 3) = 4 * ((n + 1) * (n + 1 + 1)) + 1 := by
    simp only [Nat.mul_add, Nat.add_mul, Nat.mul_one, Nat.one_mul]
    have : 2 * n * (2 * n) = 4 * (n * n) := by rw [Nat.mul_mul_mul_comm]
    omega
  refine ⟨?_, ?_⟩
  · rw [totF_is (by decide) (tot_one n)]
    omega
  · rw [totF_is (by decide) (tot_one (n + 1))]
    have ev : ∃ k, (n + 1) * (n + 1 + 1) = 2 * k := by
      have := Nat.mod_two_eq_zero_or_one n
      rcases this with z | z
      · exact ⟨(n / 2 + 1) * (n + 1), by
          have e : n + 1 + 1 = 2 * (n / 2 + 1) := by omega
          rw [e, Nat.mul_comm (n + 1), Nat.mul_assoc]⟩
      · exact ⟨(n + 1) / 2 * (n + 1 + 1), by
          have e : n + 1 = 2 * ((n + 1) / 2) := by omega
          rw [← Nat.mul_assoc, ← e]⟩
    obtain ⟨k, hk⟩ := ev
    rw [hk] at e2 ⊢
    omega
/-- the least count of so many letters -/
def Le (L n : Nat) : Prop := 2 * L ≤ n * (n + 3) ∧ (n = 0 ∨ (n - 1) * (n + 2) < 2 * L)
theorem le_of {L r : Nat} (h1 : r * r ≤ 8 * L + 9) (h2 : 8 * L + 9 < (r + 1) * (r + 1)) : Le L (if (r - 3) / 2 * ((r - 3) / 2 + 3) < 2 * L then (r - 3) / 2 + 1 else (r - 3) / 2) := by
  have hr : 3 ≤ r := by
    by_cases z : r ≤ 2
    · have := sq_step (r + 1) 3 (by omega)
      omega
    · omega
  obtain ⟨n, hn⟩ : ∃ n, n = (r - 3) / 2 := ⟨_, rfl⟩
  rw [← hn]
  have a2 := sq_step _ _ (show 2 * n + 3 ≤ r by omega)
  have b2 := sq_step _ _ (show r + 1 ≤ 2 * n + 5 by omega)
  have sq : 2 * n * (2 * n) = 4 * (n * n) := by rw [Nat.mul_mul_mul_comm]
  have e1 : (2 * n + 3) * (2 * n + 3) = 4 * (n * (n + 3)) + 9 := by
    simp only [Nat.mul_add, Nat.add_mul, Nat.mul_one, Nat.one_mul]
    omega
  have e2 : (2 * n + 5) * (2 * n + 5) = 4 * ((n + 1) * (n + 1 + 3)) + 9 := by
    simp only [Nat.mul_add, Nat.add_mul, Nat.mul_one, Nat.one_mul]
    omega
  split
  · rename_i hlt
    refine ⟨by omega, Or.inr ?_⟩
    show (n + 1 - 1) * (n + 1 + 2) < 2 * L
    rw [Nat.add_sub_cancel]
    exact hlt
  · rename_i hge
    refine ⟨by omega, ?_⟩
    cases n with
    | zero => exact Or.inl rfl
    | succ n =>
      refine Or.inr ?_
      have e3 : (n + 1) * (n + 1 + 3) = (n + 1 - 1) * (n + 1 + 2) + (2 * n + 4) := by
        rw [Nat.add_sub_cancel]
        simp only [Nat.mul_add, Nat.add_mul, Nat.mul_one, Nat.one_mul]
        omega
      omega
theorem le_mono {n m : Nat} (h : n ≤ m) : n * (n + 3) ≤ m * (m + 3) := Nat.mul_le_mul h (by omega)
theorem le_uniq {L n m : Nat} (h1 : Le L n) (h2 : Le L m) : n = m := by
  have key : ∀ {n m : Nat}, Le L n → Le L m → ¬ n < m := by
    intro n m h1 h2 c
    rcases h2.2 with z | z
    · omega
    · have := le_mono (show n ≤ m - 1 by omega)
      have e : m - 1 + 3 = m + 2 := by omega
      rw [e] at this
      have := h1.1
      omega
  have := key h1 h2
  have := key h2 h1
  omega
theorem le_far {L n : Nat} (h : Le L n) : n ≤ L := by
  rcases h.2 with z | z
  · omega
  · obtain ⟨m, rfl⟩ : ∃ m, n = m + 1 := ⟨n - 1, by
      by_cases z : n = 0
      · subst z; have := h.1; omega
      · omega⟩
    rw [Nat.add_sub_cancel] at z
    by_cases c : m = 0
    · subst c; omega
    · have : m * 4 ≤ m * (m + 1 + 2) := Nat.mul_le_mul_left _ (by omega)
      omega
theorem gr_le {L n : Nat} (h : Gr 1 L n) : Le L n := by
  obtain ⟨h1, h2⟩ := h
  rw [totF_is (by decide) (tot_one n)] at h1
  rw [totF_is (by decide) (tot_one (n + 1))] at h2
  have e1 : n * (n + 3) = n * (n + 1) + 2 * n := by rw [show n + 3 = n + 1 + 2 by omega, Nat.mul_add]; omega
  have e2 : (n + 1) * (n + 1 + 1) = n * (n + 1) + 2 * n + 2 := by
    simp only [Nat.mul_add, Nat.add_mul, Nat.mul_one, Nat.one_mul]
    omega
  have ev : ∃ k, n * (n + 1) = 2 * k := by
    rcases Nat.mod_two_eq_zero_or_one n with z | z
    · exact ⟨n / 2 * (n + 1), by
        have e : n = 2 * (n / 2) := by omega
        rw [← Nat.mul_assoc, ← e]⟩
    · exact ⟨n * ((n + 1) / 2), by
        have e : n + 1 = 2 * ((n + 1) / 2) := by omega
        conv => lhs; rw [e]
        rw [← Nat.mul_assoc, Nat.mul_comm n 2, Nat.mul_assoc]⟩
  obtain ⟨k, hk⟩ := ev
  refine ⟨by omega, ?_⟩
  cases n with
  | zero => exact Or.inl rfl
  | succ n =>
    refine Or.inr ?_
    have e3 : (n + 1) * (n + 1 + 1) = (n + 1 - 1) * (n + 1 + 2) + 2 := by
      rw [Nat.add_sub_cancel]
      simp only [Nat.mul_add, Nat.add_mul, Nat.mul_one, Nat.one_mul]
      omega
    omega
theorem gr_base {s L n m : Nat} (hs : 1 ≤ s) (h1 : Gr 1 L n) (h2 : Gr s L m) : n ≤ m := by
  by_cases c : m < n
  · have a := totF_le hs (show m + 1 ≤ n by omega)
    have b := tot_base hs (totF_spec (c := n) hs) (totF_spec (s := 1) (by decide))
    have := h1.1
    have := h2.2
    omega
  · omega
theorem gr_depth {s L m : Nat} (hs : 1 ≤ s) (h : Gr s L m) (d : Nat) : m ≤ L / (d + 1) + Sn s d := by
  have a := tot_depth hs (totF_spec (c := m) hs) d
  have b := h.1
  have c : (d + 1) * (m - Sn s d) ≤ L := by
    rw [Nat.mul_sub]
    omega
  have := (Nat.le_div_iff_mul_le (show 0 < d + 1 by omega)).mpr (by rw [Nat.mul_comm]; exact c)
  omega
theorem gr_ex {s : Nat} (hs : 1 ≤ s) (L : Nat) : ∃ c, Gr s L c := by
  have key : ∀ n, L < totF s n → ∃ c, Gr s L c := by
    intro n
    induction n with
    | zero =>
      intro h
      have e : totF s 0 = 0 := totF_is hs ⟨0, 0, rfl, Nat.zero_le _, rfl⟩
      omega
    | succ n ih =>
      intro h
      by_cases c : L < totF s n
      · exact ih c
      · exact ⟨n, by omega, h⟩
  exact key (L + 1) (totF_ge hs)
open Classical in
noncomputable def grF (s L : Nat) : Nat := if h : ∃ c, Gr s L c then h.choose else 0
theorem grF_spec {s L : Nat} (hs : 1 ≤ s) : Gr s L (grF s L) := by
  unfold grF
  rw [dif_pos (gr_ex hs L)]
  exact (gr_ex hs L).choose_spec
theorem grF_is {s L c : Nat} (hs : 1 ≤ s) (h : Gr s L c) : grF s L = c := gr_uniq hs (grF_spec hs) h
theorem grF_le {s L : Nat} (hs : 1 ≤ s) : grF s L ≤ L := Nat.le_trans (totF_ge hs) (grF_spec hs).1
/-- the count of the letters of c texts -/
theorem grF_tot {s c : Nat} (hs : 1 ≤ s) : grF s (totF s c) = c := grF_is hs ⟨Nat.le_refl _, totF_lt hs (Nat.lt_succ_self c)⟩
theorem grF_tot1 {s c : Nat} (hs : 1 ≤ s) (h : 1 ≤ totF s c) : grF s (totF s c - 1) + 1 = c := by
  have hc : 1 ≤ c := by
    by_cases z : c = 0
    · subst z
      have e : totF s 0 = 0 := totF_is hs ⟨0, 0, rfl, Nat.zero_le _, rfl⟩
      omega
    · omega
  obtain ⟨d, rfl⟩ : ∃ d, c = d + 1 := ⟨c - 1, by omega⟩
  have : grF s (totF s (d + 1) - 1) = d := grF_is hs ⟨by have := totF_lt hs (Nat.lt_add_one d); omega, by omega⟩
  omega
theorem totF_cap {s c : Nat} (hs : 1 ≤ s) : totF s c ≤ c * (c + 1) / 2 := tot_base hs (totF_spec hs) (tot_one c)
def cap : Nat := 10 ^ 30 + 1
theorem totF_big {s c : Nat} (hs : 1 ≤ s) (h : c ≤ cap) : totF s c < 2 ^ 250 := by
  have a := totF_cap (c := c) hs
  have b : c * (c + 1) ≤ cap * (cap + 1) := Nat.mul_le_mul h (by omega)
  have d : cap * (cap + 1) < 2 ^ 250 := by decide +kernel
  omega
theorem level_small {s w : Nat} (hs : 2 ≤ s) (h : s ^ w ≤ 6 * cap) : w ≤ 110 := by
  by_cases c : 111 ≤ w
  · have a : 2 ^ 111 ≤ 2 ^ w := Nat.pow_le_pow_right (by decide) c
    have b : 2 ^ w ≤ s ^ w := Nat.pow_le_pow_left hs w
    have d : 6 * cap < 2 ^ 111 := by decide +kernel
    omega
  · omega
theorem cap_lt : cap < 2 ^ 101 := by decide +kernel
end My

set_option Elab.async false
set_option linter.all false
set_option maxRecDepth 100000
set_option maxHeartbeats 4000000
namespace My
open PySem PySem.Spec PyProof.Rows L2 Evl
open SX (S S_len S_cat S_beq S_beq_eq S_inj S_tl)
/-! ### rows of stretches -/
abbrev Parts := List (Int × Int)
def seg (line : List Nat) (p : Int × Int) : List Nat := cutL line (some p.1) (some p.2)
def stP (line : List Nat) (s : Option (Int × List (List Nat))) (p : Int × Int) : Option (Int × List (List Nat)) :=
  match s with
  | none => none
  | some (le, ws) => if (le ≤ p.1 ∧ p.1 < p.2 ∧ p.2 ≤ (line.length : Int)) ∧ seg line p ∉ ws then some (p.2, seg line p :: ws) else none
def stF (line : List Nat) (row : Parts) : Option (Int × List (List Nat)) := row.foldl (stP line) (some (0, []))
def goodF (line : List Nat) (row : Parts) : Bool := (stF line row).isSome
theorem st_none (line : List Nat) : ∀ row : Parts, row.foldl (stP line) none = none
  | [] => rfl
  | _ :: r => st_none line r
theorem stF_app (line : List Nat) (r1 r2 : Parts) : stF line (r1 ++ r2) = r2.foldl (stP line) (stF line r1) := List.foldl_append
theorem stF_take {line : List Nat} {row : Parts} {i : Nat} (h : i < row.length) : stF line (row.take (i + 1)) = stP line (stF line (row.take i)) (row.getD i (0, 0)) := by
  rw [List.take_succ_eq_append_getElem h, stF_app, List.getD_eq_getElem?_getD, List.getElem?_eq_getElem h]
  rfl
theorem bad_take {line : List Nat} {row : Parts} {i : Nat} (h : stF line (row.take i) = none) : goodF line row = false := by
  unfold goodF
  have e : stF line row = (row.drop i).foldl (stP line) (stF line (row.take i)) := by rw [← stF_app, List.take_append_drop]
  rw [e, h, st_none]
  rfl
theorem good_end {line : List Nat} {row : Parts} {s : Int × List (List Nat)} (h : stF line (row.take row.length) = some s) : goodF line row = true := by
  unfold goodF
  rw [List.take_length] at h
  rw [h]
  rfl
theorem stP_yes {line : List Nat} {le : Int} {ws : List (List Nat)} {p : Int × Int} (h : le ≤ p.1 ∧ p.1 < p.2 ∧ p.2 ≤ (line.length : Int)) (hw : seg line p ∉ ws) : stP line (some (le, ws)) p = some (p.2, seg line p :: ws) := if_pos ⟨h, hw⟩
theorem stP_no1 {line : List Nat} {le : Int} {ws : List (List Nat)} {p : Int × Int} (h : ¬ (le ≤ p.1 ∧ p.1 < p.2 ∧ p.2 ≤ (line.length : Int))) : stP line (some (le, ws)) p = none := if_neg fun c => h c.1
theorem stP_no2 {line : List Nat} {le : Int} {ws : List (List Nat)} {p : Int × Int} (h : seg line p ∈ ws) : stP line (some (le, ws)) p = none := if_neg fun c => c.2 h
/-! a row of objects -/
def pV (p : Int × Int) : List V := [.int p.1, .int p.2]
def Row (o i : List V → HO) (H : Hp) (p : Addr) (row : Parts) : Prop := ∃ ps : List Addr, H p = some (o (ps.map V.ref)) ∧ ps.length = row.length ∧ ∀ k, k < row.length → H (ps.getD k 0) = some (i (pV (row.getD k (0, 0))))
theorem Row.ex {o i : List V → HO} {H H' : Hp} {p : Addr} {row : Parts} (h : Row o i H p row) (e : Ex H H') : Row o i H' p row := by
  obtain ⟨ps, a, b, c⟩ := h
  exact ⟨ps, e _ _ a, b, fun k hk => e _ _ (c k hk)⟩
abbrev RowT := Row .lst .tup
abbrev RowL := Row .lst .lst
abbrev RowU := Row .tup .tup
theorem ref_at {ps : List Addr} {k : Nat} {x : V} (h : (ps.map V.ref)[k]? = some x) : x = .ref (ps.getD k 0) ∧ k < ps.length := by
  rw [List.getElem?_map] at h
  cases e : ps[k]? with
  | none => rw [e] at h; cases h
  | some a =>
    rw [e] at h
    refine ⟨?_, (List.getElem?_eq_some_iff.mp e).1⟩
    rw [List.getD_eq_getElem?_getD, e]
    exact (Option.some.inj h).symm
theorem atI_ref {ps : List Addr} {k : Nat} (h : k < ps.length) : atI (ps.map V.ref) (k : Int) = some (.ref (ps.getD k 0)) := atI_nat (by
  rw [List.getElem?_map, List.getElem?_eq_getElem h, List.getD_eq_getElem?_getD, List.getElem?_eq_getElem h]
  rfl)
theorem p0 (p : Int × Int) : atI (pV p) 0 = some (.int p.1) := rfl
theorem p1 (p : Int × Int) : atI (pV p) 1 = some (.int p.2) := rfl
end My

set_option Elab.async false
set_option linter.all false
set_option maxRecDepth 100000
set_option maxHeartbeats 4000000
namespace My
open PySem PySem.Spec PyProof.Rows L2 Evl
open SX (S S_len S_cat S_beq S_beq_eq S_inj S_tl)
/-- a row and its places -/
def RowX (H : Hp) (p : Addr) (row : Parts) (ps : List Addr) : Prop := H p = some (.lst (ps.map V.ref)) ∧ ps.length = row.length ∧ ∀ k, k < row.length → H (ps.getD k 0) = some (.tup (pV (row.getD k (0, 0))))
theorem RowX.row {H : Hp} {p : Addr} {row : Parts} {ps : List Addr} (h : RowX H p row ps) : RowT H p row := ⟨ps, h⟩
theorem RowX.ex {H H' : Hp} {p : Addr} {row : Parts} {ps : List Addr} (h : RowX H p row ps) (e : Ex H H') : RowX H' p row ps := ⟨e _ _ h.1, h.2.1, fun k hk => e _ _ (h.2.2 k hk)⟩
theorem RowX.upd {H : Hp} {p d : Addr} {row : Parts} {ps : List Addr} {o u : HO} (h : RowX H p row ps) (hd : H d = some u) (h1 : ∀ xs, u ≠ .lst xs) (h2 : ∀ xs, u ≠ .tup xs) : RowX (upd H d o) p row ps :=
  ⟨by rw [upd_ne (ne_of h.1 hd fun c => h1 _ c.symm)]; exact h.1, h.2.1, fun k hk => by rw [upd_ne (ne_of (h.2.2 k hk) hd fun c => h2 _ c.symm)]; exact h.2.2 k hk⟩
theorem getD_snoc {α : Type} (l : List α) (x d : α) (k : Nat) : (l ++ [x]).getD k d = if k < l.length then l.getD k d else if k = l.length then x else d := by
  rw [List.getD_eq_getElem?_getD, List.getD_eq_getElem?_getD]
  by_cases h : k < l.length
  · rw [if_pos h, List.getElem?_append_left h]
  · rw [if_neg h, List.getElem?_append_right (by omega)]
    by_cases e : k = l.length
    · subst e; simp
    · rw [if_neg e, List.getElem?_eq_none (by simp; omega)]; rfl
/-- one more part, at q -/
theorem RowX.app {H : Hp} {p q : Addr} {row : Parts} {ps : List Addr} {pt : Int × Int} (h : RowX H p row ps) (hq : H q = some (.tup (pV pt))) : RowX (L2.upd H p (.lst (ps.map V.ref ++ [.ref q]))) p (row ++ [pt]) (ps ++ [q]) := by
  refine ⟨?_, by rw [List.length_append, List.length_append, h.2.1]; rfl, fun k hk => ?_⟩
  · rw [List.map_append]
    exact upd_same
  · rw [getD_snoc, getD_snoc, h.2.1]
    by_cases c : k < row.length
    · rw [if_pos c, if_pos c, upd_ne (ne_of (h.2.2 k c) h.1 (by intro z; cases z))]
      exact h.2.2 k c
    · have e : k = row.length := by rw [List.length_append] at hk; simp at hk; omega
      rw [if_neg c, if_neg c, if_pos e, if_pos e, upd_ne (ne_of hq h.1 (by intro z; cases z))]
      exact hq
/-- the last part put anew, at q -/
theorem RowX.last {H : Hp} {p q : Addr} {row : Parts} {ps : List Addr} {pt : Int × Int} (h : RowX H p row ps) (hr : row ≠ []) (hq : H q = some (.tup (pV pt))) :
    RowX (L2.upd H p (.lst ((ps.map V.ref).set (row.length - 1) (.ref q)))) p (row.dropLast ++ [pt]) (ps.dropLast ++ [q]) := by
  have hl : 0 < row.length := List.length_pos_iff.mpr hr
  have e : (ps.map V.ref).set (row.length - 1) (.ref q) = (ps.dropLast.map V.ref) ++ [.ref q] := by
    have hp : ps ≠ [] := by intro c; rw [c] at h; have := h.2.1; simp at this; omega
    obtain ⟨qs, y, rfl⟩ : ∃ qs y, ps = qs ++ [y] := ⟨ps.dropLast, ps.getLast hp, (List.dropLast_concat_getLast hp).symm⟩
    have : row.length - 1 = (qs.map V.ref).length := by have := h.2.1; simp at this; rw [List.length_map]; omega
    rw [this, List.map_append, List.dropLast_concat, List.set_append_right _ _ (Nat.le_refl _), Nat.sub_self]
    rfl
  rw [e]
  have h2 : ps.dropLast.length = row.dropLast.length := by rw [List.length_dropLast, List.length_dropLast, h.2.1]
  refine ⟨?_, by rw [List.length_append, List.length_append, h2]; rfl, fun k hk => ?_⟩
  · rw [List.map_append]
    exact upd_same
  · rw [getD_snoc, getD_snoc, h2]
    by_cases c : k < row.dropLast.length
    · have ck : k < row.length := by rw [List.length_dropLast] at c; omega
      have g1 : ps.dropLast.getD k 0 = ps.getD k 0 := by
        rw [List.getD_eq_getElem?_getD, List.getD_eq_getElem?_getD, List.getElem?_dropLast, if_pos (by rw [List.length_dropLast] at c; rw [h.2.1]; omega)]
      have g2 : row.dropLast.getD k (0, 0) = row.getD k (0, 0) := by
        rw [List.getD_eq_getElem?_getD, List.getD_eq_getElem?_getD, List.getElem?_dropLast, if_pos (by rw [List.length_dropLast] at c; omega)]
      rw [if_pos c, if_pos c, g1, g2, upd_ne (ne_of (h.2.2 k ck) h.1 (by intro z; cases z))]
      exact h.2.2 k ck
    · have e : k = row.dropLast.length := by rw [List.length_append] at hk; simp at hk; simp at c; rw [List.length_dropLast]; omega
      rw [if_neg c, if_neg c, if_pos e, if_pos e, upd_ne (ne_of hq h.1 (by intro z; cases z))]
      exact hq
/-! parts in order -/
def InOrd (n : Int) : Int → Parts → Prop
  | _, [] => True
  | lo, p :: r => lo ≤ p.1 ∧ p.1 < p.2 ∧ p.2 ≤ n ∧ InOrd n p.2 r
def endF : Int → Parts → Int
  | lo, [] => lo
  | _, p :: r => endF p.2 r
theorem ord_snoc {n : Int} {pt : Int × Int} : ∀ {lo : Int} {row : Parts}, InOrd n lo (row ++ [pt]) ↔ InOrd n lo row ∧ endF lo row ≤ pt.1 ∧ pt.1 < pt.2 ∧ pt.2 ≤ n
  | lo, [] => by simp [InOrd, endF]
  | lo, p :: r => by
    have ih := @ord_snoc n pt p.2 r
    show (lo ≤ p.1 ∧ p.1 < p.2 ∧ p.2 ≤ n ∧ InOrd n p.2 (r ++ [pt])) ↔ (lo ≤ p.1 ∧ p.1 < p.2 ∧ p.2 ≤ n ∧ InOrd n p.2 r) ∧ endF p.2 r ≤ pt.1 ∧ pt.1 < pt.2 ∧ pt.2 ≤ n
    rw [ih]
    constructor
    · rintro ⟨a, b, c, d, e⟩; exact ⟨⟨a, b, c, d⟩, e⟩
    · rintro ⟨⟨a, b, c, d⟩, e⟩; exact ⟨a, b, c, d, e⟩
theorem end_snoc (pt : Int × Int) : ∀ (lo : Int) (row : Parts), endF lo (row ++ [pt]) = pt.2
  | _, [] => rfl
  | _, p :: r => end_snoc pt p.2 r
theorem ord_at {n : Int} : ∀ {lo : Int} {row : Parts} {i : Nat}, InOrd n lo row → i < row.length → endF lo (row.take i) ≤ (row.getD i (0, 0)).1 ∧ (row.getD i (0, 0)).1 < (row.getD i (0, 0)).2 ∧ (row.getD i (0, 0)).2 ≤ n := by
  intro lo row i h hi
  have e : row = row.take i ++ (row.getD i (0, 0) :: row.drop (i + 1)) := by
    rw [List.getD_eq_getElem?_getD, List.getElem?_eq_getElem hi]
    show row = row.take i ++ (row[i] :: row.drop (i + 1))
    rw [← List.drop_eq_getElem_cons hi, List.take_append_drop]
  have key : ∀ (lo : Int) (r1 r2 : Parts) (pt : Int × Int), InOrd n lo (r1 ++ (pt :: r2)) → endF lo r1 ≤ pt.1 ∧ pt.1 < pt.2 ∧ pt.2 ≤ n := by
    intro lo r1
    induction r1 generalizing lo with
    | nil => intro r2 pt h; exact ⟨h.1, h.2.1, h.2.2.1⟩
    | cons p r ih => intro r2 pt h; exact ih p.2 r2 pt h.2.2.2
  rw [e] at h
  exact key lo _ _ _ h
theorem end_take {row : Parts} {i : Nat} (h : i < row.length) (lo : Int) : endF lo (row.take (i + 1)) = (row.getD i (0, 0)).2 := by
  rw [List.take_succ_eq_append_getElem h, end_snoc, List.getD_eq_getElem?_getD, List.getElem?_eq_getElem h]
  rfl
theorem stF_snoc {line : List Nat} {row : Parts} {pt : Int × Int} {le : Int} {ws : List (List Nat)} (h : stF line row = some (le, ws)) (h1 : le ≤ pt.1) (h2 : pt.1 < pt.2) (h3 : pt.2 ≤ (line.length : Int)) (h4 : seg line pt ∉ ws) : stF line (row ++ [pt]) = some (pt.2, seg line pt :: ws) := by
  rw [stF_app, h]
  exact stP_yes ⟨h1, h2, h3⟩ h4
theorem good_of {line : List Nat} {row : Parts} {s : Int × List (List Nat)} (h : stF line row = some s) : goodF line row = true := by
  unfold goodF
  rw [h]
  rfl
/-- xs[i] = (.., ..) -/
theorem s_setLU {σ : L2.St} {H : Hp} {ta tb te : TE} {D : Ends} {l : Addr} {xs ys : List V} {i : Int} {j : Nat} (hl : H l = some (.lst xs)) (h : EvU te σ H ys) (ho : Ev ta σ H (.ref l)) (hi : Ev tb σ H (.int i)) (hj : ixN xs.length i = some j) (k : ∀ p H1, H p = none → Ex H H1 → H1 p = some (.tup ys) → D.nx σ (upd H1 l (.lst (xs.set j (.ref p))))) :
    tAsg te (gSub ta tb rSetL) D σ H := h H (Ex.refl H) _ fun p H1 hp e1 h1 => ho H1 e1 _ fun H2 e2 => hi H2 (e1.trans e2) _ fun H3 e3 =>
  ⟨l, xs, i, j, rfl, rfl, ((e1.trans e2).trans e3) l _ hl, hj, k p H3 hp ((e1.trans e2).trans e3) (e3 _ _ (e2 _ _ h1))⟩
end My

set_option Elab.async false
set_option linter.all false
set_option maxRecDepth 100000
set_option maxHeartbeats 4000000
namespace My
open PySem PySem.Spec PyProof.Rows L2 Evl
theorem fold_iff (line : List Nat) : ∀ (row : Parts) (le : Int) (ws : List (List Nat)), (row.foldl (stP line) (some (le, ws))).isSome = true ↔ InOrd (line.length : Int) le row ∧ (row.map (seg line)).Nodup ∧ ∀ s ∈ row.map (seg line), s ∉ ws
  | [], le, ws => by simp [InOrd]
  | p :: r, le, ws => by
    rw [List.foldl_cons]
    by_cases c : (le ≤ p.1 ∧ p.1 < p.2 ∧ p.2 ≤ (line.length : Int)) ∧ seg line p ∉ ws
    · have e : stP line (some (le, ws)) p = some (p.2, seg line p :: ws) := if_pos c
      rw [e, fold_iff line r]
      obtain ⟨⟨c1, c2, c3⟩, c4⟩ := c
      constructor
      · rintro ⟨h1, h2, h3⟩
        refine ⟨⟨c1, c2, c3, h1⟩, ?_, fun s hs => ?_⟩
        · rw [List.map_cons, List.nodup_cons]
          exact ⟨fun hm => h3 _ hm List.mem_cons_self, h2⟩
        · rw [List.map_cons] at hs
          rcases List.mem_cons.mp hs with rfl | hs
          · exact c4
          · exact fun hw => h3 s hs (List.mem_cons_of_mem _ hw)
      · rintro ⟨⟨_, _, _, h1⟩, h2, h3⟩
        rw [List.map_cons, List.nodup_cons] at h2
        refine ⟨h1, h2.2, fun s hs hw => ?_⟩
        rcases List.mem_cons.mp hw with rfl | hw
        · exact h2.1 hs
        · exact h3 s (by rw [List.map_cons]; exact List.mem_cons_of_mem _ hs) hw
    · have e : stP line (some (le, ws)) p = none := if_neg c
      rw [e, st_none]
      constructor
      · intro h; cases h
      · rintro ⟨⟨c1, c2, c3, _⟩, _, h3⟩
        exact absurd ⟨⟨c1, c2, c3⟩, h3 _ (by rw [List.map_cons]; exact List.mem_cons_self)⟩ c
theorem good_iff {line : List Nat} {row : Parts} : goodF line row = true ↔ InOrd (line.length : Int) 0 row ∧ (row.map (seg line)).Nodup := by
  unfold goodF stF
  rw [fold_iff]
  constructor
  · rintro ⟨a, b, _⟩; exact ⟨a, b⟩
  · rintro ⟨a, b⟩; exact ⟨a, b, fun _ _ h => absurd h List.not_mem_nil⟩
theorem ord_app {n : Int} : ∀ {lo : Int} {r1 r2 : Parts}, InOrd n lo (r1 ++ r2) ↔ InOrd n lo r1 ∧ InOrd n (endF lo r1) r2
  | lo, [], r2 => by simp [InOrd, endF]
  | lo, p :: r, r2 => by
    have ih := @ord_app n p.2 r r2
    show (lo ≤ p.1 ∧ p.1 < p.2 ∧ p.2 ≤ n ∧ InOrd n p.2 (r ++ r2)) ↔ (lo ≤ p.1 ∧ p.1 < p.2 ∧ p.2 ≤ n ∧ InOrd n p.2 r) ∧ InOrd n (endF p.2 r) r2
    rw [ih]
    constructor
    · rintro ⟨a, b, c, d, e⟩; exact ⟨⟨a, b, c, d⟩, e⟩
    · rintro ⟨⟨a, b, c, d⟩, e⟩; exact ⟨a, b, c, d, e⟩
theorem ord_mono {n m lo lo2 : Int} {r : Parts} (h : InOrd n lo r) (hn : n ≤ m) (hl : lo2 ≤ lo) : InOrd m lo2 r := by
  induction r generalizing lo lo2 with
  | nil => trivial
  | cons p r ih => exact ⟨Int.le_trans hl h.1, h.2.1, Int.le_trans h.2.2.1 hn, ih h.2.2.2 (Int.le_refl _)⟩
theorem ord_end {n lo : Int} {r : Parts} (h : InOrd n lo r) : lo ≤ endF lo r := by
  induction r generalizing lo with
  | nil => exact Int.le_refl _
  | cons p r ih => exact Int.le_trans (Int.le_trans h.1 (Int.le_of_lt h.2.1)) (ih h.2.2.2)
theorem ord_mem {n lo : Int} {r : Parts} (h : InOrd n lo r) : ∀ p ∈ r, lo ≤ p.1 ∧ p.1 < p.2 ∧ p.2 ≤ endF lo r ∧ p.2 ≤ n := by
  induction r generalizing lo with
  | nil => intro p hp; cases hp
  | cons q r ih =>
    intro p hp
    rcases List.mem_cons.mp hp with rfl | hp
    · exact ⟨h.1, h.2.1, ord_end h.2.2.2, h.2.2.1⟩
    · obtain ⟨a, b, c, d⟩ := ih h.2.2.2 p hp
      exact ⟨Int.le_trans (Int.le_trans h.1 (Int.le_of_lt h.2.1)) a, b, c, d⟩
def shiftP (w : Int) (p : Int × Int) : Int × Int := (p.1 + w, p.2 + w)
theorem ord_shift {n lo w : Int} {r : Parts} (h : InOrd n lo r) : InOrd (n + w) (lo + w) (r.map (shiftP w)) := by
  induction r generalizing lo with
  | nil => trivial
  | cons p r ih =>
    have h1 : lo ≤ p.1 := h.1
    have h2 : p.1 < p.2 := h.2.1
    have h3 : p.2 ≤ n := h.2.2.1
    exact ⟨by show lo + w ≤ p.1 + w; omega, by show p.1 + w < p.2 + w; omega, by show p.2 + w ≤ n + w; omega, ih h.2.2.2⟩
theorem cut_left {T X : List Nat} {p m : Nat} (h : p + m ≤ T.length) : ((T ++ X).drop p).take m = (T.drop p).take m := by
  rw [List.drop_append_of_le_length (by omega), List.take_append_of_le_length (by rw [List.length_drop]; omega)]
theorem cut_right {T Y : List Nat} {q m : Nat} (h : T.length ≤ q) : ((T ++ Y).drop q).take m = (Y.drop (q - T.length)).take m := by
  rw [List.drop_append, List.drop_eq_nil_of_le h, List.nil_append]
def grown (line : List Nat) (a : Nat) (word : List Nat) : List Nat := line.take a ++ word ++ line.drop a
section
variable {line word : List Nat} {a : Nat}
theorem seg_nat {L : List Nat} {p : Int × Int} (h1 : 0 ≤ p.1) (h2 : 0 ≤ p.2) : seg L p = (L.drop p.1.toNat).take (p.2.toNat - p.1.toNat) := cutL_mid h1 h2
theorem seg_ahead (ha : a ≤ line.length) {p : Int × Int} (h0 : 0 ≤ p.1) (h1 : p.1 < p.2) (h2 : p.2 ≤ (a : Int)) : seg (grown line a word) p = seg line p := by
  rw [seg_nat h0 (by omega), seg_nat h0 (by omega)]
  have hT : (line.take a).length = a := by rw [List.length_take]; omega
  unfold grown
  rw [List.append_assoc, cut_left (by omega)]
  conv => rhs; rw [← List.take_append_drop a line]
  rw [cut_left (by omega)]
theorem seg_behind (ha : a ≤ line.length) {p : Int × Int} (h0 : (a : Int) ≤ p.1) (h1 : p.1 < p.2) : seg (grown line a word) (shiftP (word.length : Int) p) = seg line p := by
  rw [seg_nat (by show 0 ≤ p.1 + _; omega) (by show 0 ≤ p.2 + _; omega), seg_nat (by omega) (by omega)]
  have hT : (line.take a).length = a := by rw [List.length_take]; omega
  have hU : (line.take a ++ word).length = a + word.length := by rw [List.length_append, hT]
  unfold grown
  show ((line.take a ++ word ++ line.drop a).drop (p.1 + (word.length : Int)).toNat).take ((p.2 + (word.length : Int)).toNat - (p.1 + (word.length : Int)).toNat) = _
  rw [cut_right (by omega), hU]
  conv => rhs; rw [← List.take_append_drop a line]
  rw [cut_right (by omega), hT]
  have e1 : (p.1 + (word.length : Int)).toNat - (a + word.length) = p.1.toNat - a := by omega
  have e2 : (p.2 + (word.length : Int)).toNat - (p.1 + (word.length : Int)).toNat = p.2.toNat - p.1.toNat := by omega
  rw [e1, e2]
theorem seg_word (ha : a ≤ line.length) : seg (grown line a word) ((a : Int), (a : Int) + (word.length : Int)) = word := by
  rw [seg_nat (by show (0 : Int) ≤ (a : Int); omega) (by show (0 : Int) ≤ (a : Int) + _; omega)]
  have hT : (line.take a).length = a := by rw [List.length_take]; omega
  unfold grown
  rw [List.append_assoc]
  show ((line.take a ++ (word ++ line.drop a)).drop (a : Int).toNat).take (((a : Int) + (word.length : Int)).toNat - (a : Int).toNat) = _
  have e1 : (a : Int).toNat = a := by omega
  have e2 : ((a : Int) + (word.length : Int)).toNat - (a : Int).toNat = word.length := by omega
  rw [e2, e1, cut_right (by omega), hT, Nat.sub_self, List.drop_zero, List.take_left]
theorem grown_len (ha : a ≤ line.length) : (grown line a word).length = line.length + word.length := by
  unfold grown
  rw [List.length_append, List.length_append, List.length_take, List.length_drop]
  omega
theorem twice_good {A B : Parts} (ha : a ≤ line.length) (hA : endF 0 A ≤ (a : Int)) (hB : InOrd (line.length : Int) (a : Int) B) (h : goodF line (A ++ B) = true) : goodF (grown line a word) (A ++ B.map (shiftP (word.length : Int))) = true := by
  obtain ⟨h1, h2⟩ := good_iff.mp h
  obtain ⟨oA, _⟩ := ord_app.mp h1
  have hseg : (A ++ B.map (shiftP (word.length : Int))).map (seg (grown line a word)) = (A ++ B).map (seg line) := by
    rw [List.map_append, List.map_append, List.map_map]
    congr 1
    · refine List.map_congr_left fun p hp => ?_
      obtain ⟨q1, q2, q3, _⟩ := ord_mem oA p hp
      exact seg_ahead ha q1 q2 (by omega)
    · refine List.map_congr_left fun p hp => ?_
      obtain ⟨q1, q2, _, _⟩ := ord_mem hB p hp
      exact seg_behind ha q1 q2
  refine good_iff.mpr ⟨?_, by rw [hseg]; exact h2⟩
  rw [grown_len ha]
  refine ord_app.mpr ⟨ord_mono oA (by omega) (Int.le_refl _), ?_⟩
  have := ord_shift (w := (word.length : Int)) hB
  refine ord_mono this (by omega) (by omega)
theorem twice_bad {A B : Parts} (ha : a ≤ line.length) (hA : endF 0 A ≤ (a : Int)) (hB : InOrd (line.length : Int) (a : Int) B) (h : goodF line (A ++ B) = true) (hw : word ∈ (A ++ B).map (seg line)) :
    goodF (grown line a word) (A ++ [((a : Int), (a : Int) + (word.length : Int))] ++ B.map (shiftP (word.length : Int))) = false := by
  cases hg : goodF (grown line a word) (A ++ [((a : Int), (a : Int) + (word.length : Int))] ++ B.map (shiftP (word.length : Int))) with
  | false => rfl
  | true =>
    exfalso
    obtain ⟨_, hn⟩ := good_iff.mp hg
    obtain ⟨oA, _⟩ := ord_app.mp (good_iff.mp h).1
    rw [List.map_append, List.map_append, List.map_map] at hn
    have hAs : A.map (seg (grown line a word)) = A.map (seg line) := List.map_congr_left fun p hp => by
      obtain ⟨q1, q2, q3, _⟩ := ord_mem oA p hp
      exact seg_ahead ha q1 q2 (by omega)
    have hBs : B.map (seg (grown line a word) ∘ shiftP (word.length : Int)) = B.map (seg line) := List.map_congr_left fun p hp => by
      obtain ⟨q1, q2, _, _⟩ := ord_mem hB p hp
      exact seg_behind ha q1 q2
    have hWs : [((a : Int), (a : Int) + (word.length : Int))].map (seg (grown line a word)) = [word] := by
      show [seg (grown line a word) ((a : Int), (a : Int) + (word.length : Int))] = [word]
      rw [seg_word ha]
    rw [hAs, hBs, hWs] at hn
    rw [List.map_append] at hw
    rcases List.mem_append.mp hw with h1 | h1
    · rw [List.append_assoc, List.nodup_append] at hn
      exact hn.2.2 word h1 word (List.mem_append_left _ (List.mem_singleton.mpr rfl)) rfl
    · rw [List.nodup_append] at hn
      exact hn.2.2 word (List.mem_append_right _ (List.mem_singleton.mpr rfl)) word h1 rfl
end
end My

set_option Elab.async false
set_option linter.all false
set_option maxRecDepth 100000
set_option maxHeartbeats 4000000
namespace My
open PySem PySem.Spec PyProof.Rows L2 Evl
open SX (S S_len S_cat S_beq S_beq_eq S_inj S_tl)
/-! ### places and parts, side by side -/
def Pl (i : List V → HO) (H : Hp) : List Addr → Parts → Prop
  | [], [] => True
  | a :: as, p :: r => H a = some (i (pV p)) ∧ Pl i H as r
  | _, _ => False
theorem Pl.ex {i : List V → HO} {H H' : Hp} (e : Ex H H') : ∀ {as : List Addr} {r : Parts}, Pl i H as r → Pl i H' as r
  | [], [], _ => trivial
  | _ :: _, _ :: _, h => ⟨e _ _ h.1, Pl.ex e h.2⟩
  | [], _ :: _, h => h.elim
  | _ :: _, [], h => h.elim
theorem Pl.len {i : List V → HO} {H : Hp} : ∀ {as : List Addr} {r : Parts}, Pl i H as r → as.length = r.length
  | [], [], _ => rfl
  | _ :: _, _ :: _, h => congrArg (· + 1) (Pl.len h.2)
  | [], _ :: _, h => h.elim
  | _ :: _, [], h => h.elim
theorem Pl.app {i : List V → HO} {H : Hp} : ∀ {as bs : List Addr} {r s : Parts}, Pl i H as r → Pl i H bs s → Pl i H (as ++ bs) (r ++ s)
  | [], _, [], _, _, h => h
  | _ :: _, _, _ :: _, _, h, g => ⟨h.1, Pl.app h.2 g⟩
  | [], _, _ :: _, _, h, _ => h.elim
  | _ :: _, _, [], _, h, _ => h.elim
theorem Pl.take {i : List V → HO} {H : Hp} : ∀ {as : List Addr} {r : Parts} (n : Nat), Pl i H as r → Pl i H (as.take n) (r.take n)
  | [], [], n, _ => by rw [List.take_nil, List.take_nil]; trivial
  | _ :: _, _ :: _, 0, _ => trivial
  | _ :: _, _ :: _, n + 1, h => ⟨h.1, Pl.take n h.2⟩
  | [], _ :: _, _, h => h.elim
  | _ :: _, [], _, h => h.elim
theorem Pl.drop {i : List V → HO} {H : Hp} : ∀ {as : List Addr} {r : Parts} (n : Nat), Pl i H as r → Pl i H (as.drop n) (r.drop n)
  | [], [], n, _ => by rw [List.drop_nil, List.drop_nil]; trivial
  | _ :: _, _ :: _, 0, h => h
  | _ :: _, _ :: _, n + 1, h => Pl.drop n h.2
  | [], _ :: _, _, h => h.elim
  | _ :: _, [], _, h => h.elim
theorem Pl.of {i : List V → HO} {H : Hp} : ∀ {ps : List Addr} {row : Parts}, ps.length = row.length → (∀ k, k < row.length → H (ps.getD k 0) = some (i (pV (row.getD k (0, 0))))) → Pl i H ps row
  | [], [], _, _ => trivial
  | a :: as, p :: r, hl, h => ⟨h 0 (Nat.succ_pos _), Pl.of (Nat.succ.inj hl) fun k hk => h (k + 1) (Nat.succ_lt_succ hk)⟩
  | [], _ :: _, hl, _ => by cases hl
  | _ :: _, [], hl, _ => by cases hl
theorem Pl.get {i : List V → HO} {H : Hp} : ∀ {ps : List Addr} {row : Parts}, Pl i H ps row → ∀ k, k < row.length → H (ps.getD k 0) = some (i (pV (row.getD k (0, 0))))
  | [], [], _, k, hk => absurd hk (Nat.not_lt_zero k)
  | _ :: _, _ :: _, h, 0, _ => h.1
  | _ :: _, _ :: _, h, k + 1, hk => Pl.get h.2 k (Nat.lt_of_succ_lt_succ hk)
  | [], _ :: _, h, _, _ => h.elim
  | _ :: _, [], h, _, _ => h.elim
theorem Row.of {o i : List V → HO} {H : Hp} {p : Addr} {ps : List Addr} {row : Parts} (h : H p = some (o (ps.map V.ref))) (g : Pl i H ps row) : Row o i H p row := ⟨ps, h, g.len, g.get⟩
theorem Row.pl {o i : List V → HO} {H : Hp} {p : Addr} {row : Parts} (h : Row o i H p row) : ∃ ps, H p = some (o (ps.map V.ref)) ∧ Pl i H ps row := by
  obtain ⟨ps, a, b, c⟩ := h
  exact ⟨ps, a, Pl.of b c⟩
theorem Pl.cut {i : List V → HO} {H : Hp} {as : List Addr} {r : Parts} (h : Pl i H as r) (lo hi : Option Int) : Pl i H (cutL as lo hi) (cutL r lo hi) := by
  unfold cutL
  rw [h.len]
  exact (h.drop _).take _
/-! ### what evaluates to a new row -/
def ER (te : TE) (σ : L2.St) (H : Hp) (G : Parts → Prop) : Prop := ∀ H1, Ex H H1 → ∀ Q : VK, (∀ p H2 row, H1 p = none → Ex H1 H2 → RowT H2 p row → G row → Q (.ref p) H2) → te σ H1 Q
section
variable {K : PySem.W.Frag} {σ : L2.St} {H : Hp} {ta tb tc te : TE} {x y v : V} {D : Ends} {tu tz : TS} {tl th : TO}
theorem er_slice {p : Addr} {row : Parts} {lo hi : Option Int} (h : Ev te σ H (.ref p)) (h1 : EvO tl σ H lo) (h2 : EvO th σ H hi) (hR : RowT H p row) : ER (tSl (rSlL K) te tl th) σ H (fun r => r = cutL row lo hi) := fun H0 e0 Q q => by
  obtain ⟨ps, hp, hg⟩ := hR.pl
  have := el_sl (K := K) h h1 h2 (sq_of hp)
  rw [cutV_L, cutL_map] at this
  refine this H0 e0 Q fun a H2 ha e2 h2' => q a H2 (cutL row lo hi) ha e2 ?_ rfl
  exact Row.of h2' ((hg.ex (e0.trans e2)).cut lo hi)
theorem er_one {i j : Int} (ha : Ev ta σ H (.int i)) (hb : ∀ H1, Ex H H1 → Ev tb σ H1 (.int j)) : ER (tLst (tCons (tTup (tCons ta (tCons tb tNil))) tNil)) σ H (fun r => r = [(i, j)]) := fun H0 e0 Q q => by
  show tTup (tCons ta (tCons tb tNil)) σ H0 (fun x H1 => [x].length ≤ sizeLine ∧ ∀ p, H1 p = none → Q (.ref p) (upd H1 p (.lst [x])))
  refine eu_tup (σ := σ) (H := H) (vs := [.int i, .int j]) (ea_cons ha (ea_cons (hb H (Ex.refl H)) ea_nil)) (by show 2 ≤ 100000; decide) H0 e0 _ fun t H1 nt e1 h1 => ?_
  refine ⟨by show 1 ≤ sizeLine; decide, fun l hl => q l _ [(i, j)] (fresh_back e1 hl) (e1.trans (Ex.new hl)) ?_ rfl⟩
  exact Row.of (ps := [t]) upd_same ⟨(Ex.new hl) _ _ h1, trivial⟩
theorem er_two {a b : Addr} {p1 p2 : Int × Int} (ha : Ev ta σ H (.ref a)) (hb : Ev tb σ H (.ref b)) (h1 : H a = some (.tup (pV p1))) (h2 : H b = some (.tup (pV p2))) : ER (tLst (tCons ta (tCons tb tNil))) σ H (fun r => r = [p1, p2]) := fun H0 e0 Q q =>
  el_lst (ea_cons ha (ea_cons hb ea_nil)) (by show 2 ≤ 100000; decide) H0 e0 Q fun l H2 nl e2 hl => q l H2 [p1, p2] nl e2 (Row.of (ps := [a, b]) hl ⟨(e0.trans e2) _ _ h1, (e0.trans e2) _ _ h2, trivial⟩) rfl
theorem er_cat {G1 G2 : Parts → Prop} {n : Nat} (ha : ER ta σ H G1) (hb : ∀ H1, Ex H H1 → ER tb σ H1 G2) (hz : ∀ r s, G1 r → G2 s → r.length + s.length ≤ 100000) : ER (tOp rCat ta tb) σ H (fun r => ∃ a b, G1 a ∧ G2 b ∧ r = a ++ b) := fun H0 e0 Q q =>
  ha H0 e0 _ fun p H1 r hp e1 h1 g1 => hb H1 (e0.trans e1) H1 (Ex.refl H1) _ fun p2 H2 s hp2 e2 h2 g2 => by
    obtain ⟨as, h1p, l1⟩ := (h1.ex e2).pl
    obtain ⟨bs, h2p, l2⟩ := h2.pl
    refine ⟨p, p2, _, _, rfl, rfl, h1p, h2p, by rw [List.length_map, List.length_map, l1.len, l2.len]; exact sz_of (hz r s g1 g2), fun l hl => q l _ (r ++ s) (fresh_back (e1.trans e2) hl) ((e1.trans e2).trans (Ex.new hl)) ?_ ⟨r, s, g1, g2, rfl⟩⟩
    refine Row.of (ps := as ++ bs) (by rw [List.map_append]; exact upd_same) (Pl.ex (Ex.new hl) (l1.app l2))
/-- a row that stands, as the left one -/
theorem er_catV {G2 : Parts → Prop} {p : Addr} {row : Parts} (ha : Ev ta σ H (.ref p)) (hR : RowT H p row) (hb : ∀ H1, Ex H H1 → ER tb σ H1 G2) (hz : ∀ s, G2 s → row.length + s.length ≤ 100000) : ER (tOp rCat ta tb) σ H (fun r => ∃ b, G2 b ∧ r = row ++ b) := fun H0 e0 Q q =>
  ha H0 e0 _ fun H1 e1 => hb H1 (e0.trans e1) H1 (Ex.refl H1) _ fun p2 H2 s hp2 e2 h2 g2 => by
    obtain ⟨as, h1p, l1⟩ := (hR.ex ((e0.trans e1).trans e2)).pl
    obtain ⟨bs, h2p, l2⟩ := h2.pl
    refine ⟨p, p2, _, _, rfl, rfl, h1p, h2p, by rw [List.length_map, List.length_map, l1.len, l2.len]; exact sz_of (hz s g2), fun l hl => q l _ (row ++ s) (fresh_back (e1.trans e2) hl) ((e1.trans e2).trans (Ex.new hl)) ?_ ⟨s, g2, rfl⟩⟩
    refine Row.of (ps := as ++ bs) (by rw [List.map_append]; exact upd_same) (Pl.ex (Ex.new hl) (l1.app l2))
/-- both stand -/
theorem er_catVV {p p2 : Addr} {row row2 : Parts} (ha : Ev ta σ H (.ref p)) (hR : RowT H p row) (hb : Ev tb σ H (.ref p2)) (hR2 : RowT H p2 row2) (hz : row.length + row2.length ≤ 100000) : ER (tOp rCat ta tb) σ H (fun r => r = row ++ row2) := fun H0 e0 Q q =>
  ha H0 e0 _ fun H1 e1 => hb H1 (e0.trans e1) _ fun H2 e2 => by
    obtain ⟨as, h1p, l1⟩ := (hR.ex ((e0.trans e1).trans e2)).pl
    obtain ⟨bs, h2p, l2⟩ := (hR2.ex ((e0.trans e1).trans e2)).pl
    refine ⟨p, p2, _, _, rfl, rfl, h1p, h2p, by rw [List.length_map, List.length_map, l1.len, l2.len]; exact sz_of hz, fun l hl => q l _ (row ++ row2) (fresh_back (e1.trans e2) hl) ((e1.trans e2).trans (Ex.new hl)) ?_ rfl⟩
    refine Row.of (ps := as ++ bs) (by rw [List.map_append]; exact upd_same) (Pl.ex (Ex.new hl) (l1.app l2))
theorem er_catR {G1 : Parts → Prop} {p2 : Addr} {row2 : Parts} (ha : ER ta σ H G1) (hb : Ev tb σ H (.ref p2)) (hR2 : RowT H p2 row2) (hz : ∀ r, G1 r → r.length + row2.length ≤ 100000) : ER (tOp rCat ta tb) σ H (fun r => ∃ a, G1 a ∧ r = a ++ row2) := fun H0 e0 Q q =>
  ha H0 e0 _ fun p H1 r hp e1 h1 g1 => hb H1 (e0.trans e1) _ fun H2 e2 => by
    obtain ⟨as, h1p, l1⟩ := (h1.ex e2).pl
    obtain ⟨bs, h2p, l2⟩ := (hR2.ex ((e0.trans e1).trans e2)).pl
    refine ⟨p, p2, _, _, rfl, rfl, h1p, h2p, by rw [List.length_map, List.length_map, l1.len, l2.len]; exact sz_of (hz r g1), fun l hl => q l _ (r ++ row2) (fresh_back (e1.trans e2) hl) ((e1.trans e2).trans (Ex.new hl)) ?_ ⟨r, g1, rfl⟩⟩
    refine Row.of (ps := as ++ bs) (by rw [List.map_append]; exact upd_same) (Pl.ex (Ex.new hl) (l1.app l2))
theorem ER.mono {G G' : Parts → Prop} (h : ER te σ H G) (k : ∀ r, G r → G' r) : ER te σ H G' := fun H1 e1 Q q => h H1 e1 Q fun p H2 row hp e2 hR g => q p H2 row hp e2 hR (k row g)
theorem s_retR {G : Parts → Prop} (h : ER te σ H G) (k : ∀ p H1 row, H p = none → Ex H H1 → RowT H1 p row → G row → D.rt (.ref p) H1) : tRet te D σ H := h H (Ex.refl H) _ fun p H1 row hp e hR g => k p H1 row hp e hR g
theorem q_asgR {G : Parts → Prop} {i : Nat} (h : ER te σ H G) (k : ∀ p H1 row, H p = none → Ex H H1 → RowT H1 p row → G row → tz D (σ.set i (some (.ref p))) H1) : tSeq (tAsg te (gName i)) tz D σ H := h H (Ex.refl H) _ fun p H1 row hp e hR g => k p H1 row hp e hR g
/-- a part of a row -/
theorem ev_part {p : Addr} {row : Parts} {k : Nat} {i : Int} (hR : RowT H p row) (hi : ixN row.length i = some k) (ha : Ev ta σ H (.ref p)) (hb : Ev tb σ H (.int i)) : ∃ q, H q = some (.tup (pV (row.getD k (0, 0)))) ∧ Ev (tOp (rIxL K) ta tb) σ H (.ref q) := by
  obtain ⟨ps, hp, hl, hg⟩ := hR
  have hk : k < row.length := (ixN_seq hi).2.1
  refine ⟨ps.getD k 0, hg k hk, ev_op ha hb (rv_ixL (K := K) (sq_of hp) ?_)⟩
  unfold atI
  rw [List.length_map, hl, hi]
  show (ps.map V.ref)[k]? = _
  rw [List.getElem?_map, List.getD_eq_getElem?_getD, List.getElem?_eq_getElem (by omega)]
  rfl
theorem ev_start {p : Addr} {row : Parts} {k : Nat} {i : Int} (hR : RowT H p row) (hi : ixN row.length i = some k) (ha : Ev ta σ H (.ref p)) (hb : Ev tb σ H (.int i)) : Ev (tOp (rIxT K) (tOp (rIxL K) ta tb) (tC (.int 0))) σ H (.int (row.getD k (0, 0)).1) := by
  obtain ⟨q, hq, h⟩ := ev_part (K := K) hR hi ha hb
  exact ev_op h ev_c (rv_ixT (K := K) (st_of hq) (p0 _))
theorem ev_stop {p : Addr} {row : Parts} {k : Nat} {i : Int} (hR : RowT H p row) (hi : ixN row.length i = some k) (ha : Ev ta σ H (.ref p)) (hb : Ev tb σ H (.int i)) : Ev (tOp (rIxT K) (tOp (rIxL K) ta tb) (tC (.int 1))) σ H (.int (row.getD k (0, 0)).2) := by
  obtain ⟨q, hq, h⟩ := ev_part (K := K) hR hi ha hb
  exact ev_op h ev_c (rv_ixT (K := K) (st_of hq) (p1 _))
theorem ev_lenR {p : Addr} {row : Parts} (hR : RowT H p row) (ha : Ev ta σ H (.ref p)) : Ev (tCB (rLenS K) (tCons ta tNil)) σ H (.int (row.length : Int)) := by
  obtain ⟨ps, hp, hl, _⟩ := hR
  have := ev_len (K := K) ha (sq_of hp)
  rw [List.length_map, hl] at this
  exact this
theorem er_parts {p : Addr} {row : Parts} {k1 k2 : Nat} {i1 i2 : Int} (hR : RowT H p row) (h1 : ixN row.length i1 = some k1) (h2 : ixN row.length i2 = some k2) (ha : Ev ta σ H (.ref p)) (hb : Ev tb σ H (.int i1)) (hc : Ev tc σ H (.int i2)) :
    ER (tLst (tCons (tOp (rIxL K) ta tb) (tCons (tOp (rIxL K) ta tc) tNil))) σ H (fun r => r = [row.getD k1 (0, 0), row.getD k2 (0, 0)]) := by
  obtain ⟨q1, hq1, hv1⟩ := ev_part (K := K) hR h1 ha hb
  obtain ⟨q2, hq2, hv2⟩ := ev_part (K := K) hR h2 ha hc
  exact er_two hv1 hv2 hq1 hq2
theorem ixN_last {n : Nat} (h : 0 < n) : ixN n (-1) = some (n - 1) := by
  unfold ixN
  rw [if_neg (by decide), if_pos (by omega)]
  congr 1
  omega
end
/-! ### a list of rows -/
def RowsG (H : Hp) (rp : Addr) (n : Nat) (G : Parts → Prop) : Prop := ∃ qs : List Addr, H rp = some (.lst (qs.map V.ref)) ∧ qs.length = n ∧ ∀ q ∈ qs, q ≠ rp ∧ ∃ row, RowT H q row ∧ G row
theorem RowT.upd {H : Hp} {q rp : Addr} {row : Parts} {xs : List V} {o : HO} (h : RowT H q row) (hr : H rp = some (.lst xs)) (hne : q ≠ rp) : RowT (L2.upd H rp o) q row := by
  obtain ⟨ps, a, b, c⟩ := h
  exact ⟨ps, by rw [upd_ne hne]; exact a, b, fun k hk => by rw [upd_ne (ne_of (c k hk) hr (by intro z; cases z))]; exact c k hk⟩
theorem RowsG.ex {H H' : Hp} {rp : Addr} {n : Nat} {G : Parts → Prop} (h : RowsG H rp n G) (e : Ex H H') : RowsG H' rp n G := by
  obtain ⟨qs, a, b, c⟩ := h
  exact ⟨qs, e _ _ a, b, fun q hq => ⟨(c q hq).1, by obtain ⟨row, h1, h2⟩ := (c q hq).2; exact ⟨row, h1.ex e, h2⟩⟩⟩
theorem RowsG.app {H : Hp} {rp p : Addr} {n : Nat} {G : Parts → Prop} {qs : List Addr} {row : Parts} (h1 : H rp = some (.lst (qs.map V.ref))) (h2 : qs.length = n) (h3 : ∀ q ∈ qs, q ≠ rp ∧ ∃ row, RowT H q row ∧ G row) (hp : p ≠ rp) (hR : RowT H p row) (hG : G row) :
    RowsG (L2.upd H rp (.lst (qs.map V.ref ++ [.ref p]))) rp (n + 1) G := by
  refine ⟨qs ++ [p], by rw [List.map_append]; exact upd_same, by rw [List.length_append, h2]; rfl, fun q hq => ?_⟩
  rcases List.mem_append.mp hq with h | h
  · obtain ⟨a, r, b, c⟩ := h3 q h
    exact ⟨a, r, b.upd h1 a, c⟩
  · simp at h
    subst h
    exact ⟨hp, row, hR.upd h1 hp, hG⟩
theorem q_appR {K : PySem.W.Frag} {σ : L2.St} {H : Hp} {ta te : TE} {D : Ends} {tz : TS} {rp : Addr} {n : Nat} {G : Parts → Prop} (h : RowsG H rp n G) (hn : n < 1000) (ha : Ev ta σ H (.ref rp)) (he : ER te σ H G) (k : ∀ H1 o, Ex H H1 → RowsG (upd H1 rp o) rp (n + 1) G → tz D σ (upd H1 rp o)) :
    tSeq (tDrop (tBM K "list" rAppend ta (tCons te tNil))) tz D σ H := ha H (Ex.refl H) _ fun H1 e1 => by
  obtain ⟨qs, h1, h2, h3⟩ := h
  refine ⟨Or.inl ⟨rfl, _, sq_of (e1 rp _ h1)⟩, he H1 e1 _ fun p H2 row hp e2 hR hG => ?_⟩
  refine ⟨rp, qs.map V.ref, .ref p, rfl, rfl, e2 rp _ (e1 rp _ h1), sz_lt (by rw [List.length_map]; omega), k H2 _ (e1.trans e2) (RowsG.app (e2 rp _ (e1 rp _ h1)) h2 (fun q hq => ⟨(h3 q hq).1, ?_⟩) ?_ hR hG)⟩
  · obtain ⟨r, a, b⟩ := (h3 q hq).2
    exact ⟨r, a.ex (e1.trans e2), b⟩
  · exact (ne_of_none (e1 _ _ h1) hp).symm
/-! ### lists of rows, made at once -/
def EW (te : TE) (σ : L2.St) (H : Hp) (G : Parts → Prop) : Prop := ∀ H1, Ex H H1 → ∀ Q : VK, (∀ p H2 row, Ex H1 H2 → RowT H2 p row → G row → Q (.ref p) H2) → te σ H1 Q
def EWA (ta : TA) (σ : L2.St) (H : Hp) (n : Nat) (G : Parts → Prop) : Prop := ∀ H1, Ex H H1 → ∀ Q : List V → Hp → Prop, (∀ (qs : List Addr) H2, Ex H1 H2 → qs.length = n → (∀ q ∈ qs, ∃ row, RowT H2 q row ∧ G row) → Q (qs.map V.ref) H2) → ta σ H1 Q
section
variable {K : PySem.W.Frag} {σ : L2.St} {H : Hp} {ta : TA} {te : TE} {D : Ends} {tz : TS} {G : Parts → Prop} {n : Nat}
theorem ER.ew (h : ER te σ H G) : EW te σ H G := fun H1 e1 Q q => h H1 e1 Q fun p H2 row _ e2 hR g => q p H2 row e2 hR g
theorem ewa_nil : EWA tNil σ H 0 G := fun H1 _ Q q => q [] H1 (Ex.refl H1) rfl fun _ h => absurd h List.not_mem_nil
theorem ewa_cons (h : EW te σ H G) (hr : EWA ta σ H n G) : EWA (tCons te ta) σ H (n + 1) G := fun H1 e1 Q q =>
  h H1 e1 _ fun p H2 row e2 hR g => hr H2 (e1.trans e2) _ fun qs H3 e3 hl hq => q (p :: qs) H3 (e2.trans e3) (congrArg (· + 1) hl) fun q' hq' => by
    rcases List.mem_cons.mp hq' with rfl | h'
    · exact ⟨row, hR.ex e3, g⟩
    · exact hq q' h'
theorem rows_lst (h : EWA ta σ H n G) (hn : n ≤ 1000) {Q : VK} (q : ∀ rp H2, H rp = none → Ex H H2 → RowsG H2 rp n G → Q (.ref rp) H2) : tLst ta σ H Q := h H (Ex.refl H) _ fun qs H1 e1 hl hq =>
  ⟨sz_of (by rw [List.length_map]; omega), fun rp hrp => q rp _ (fresh_back e1 hrp) (e1.trans (Ex.new hrp)) ⟨qs, upd_same, hl, fun q' h' => by
    obtain ⟨row, hR, g⟩ := hq q' h'
    obtain ⟨ps, hp, _⟩ := hR.pl
    exact ⟨ne_of_none hp hrp, row, hR.ex (Ex.new hrp), g⟩⟩⟩
theorem q_asgRows {i : Nat} (h : EWA ta σ H n G) (hn : n ≤ 1000) (k : ∀ rp H2, H rp = none → Ex H H2 → RowsG H2 rp n G → tz D (σ.set i (some (.ref rp))) H2) : tSeq (tAsg (tLst ta) (gName i)) tz D σ H := rows_lst (Q := fun v H2 => tz D (σ.set i (some v)) H2) h hn k
theorem q_appW {rp : Addr} (h : RowsG H rp n G) (hn : n < 1000) {tb : TE} (ha : Ev tb σ H (.ref rp)) (he : ∀ H1, Ex H H1 → ∀ Q : VK, (∀ p H2 row, p ≠ rp → Ex H1 H2 → RowT H2 p row → G row → Q (.ref p) H2) → te σ H1 Q) (k : ∀ H1 o, Ex H H1 → RowsG (upd H1 rp o) rp (n + 1) G → tz D σ (upd H1 rp o)) :
    tSeq (tDrop (tBM K "list" rAppend tb (tCons te tNil))) tz D σ H := ha H (Ex.refl H) _ fun H1 e1 => by
  obtain ⟨qs, h1, h2, h3⟩ := h
  refine ⟨Or.inl ⟨rfl, _, sq_of (e1 rp _ h1)⟩, he H1 e1 _ fun p H2 row hp e2 hR hG => ?_⟩
  refine ⟨rp, qs.map V.ref, .ref p, rfl, rfl, e2 rp _ (e1 rp _ h1), sz_lt (by rw [List.length_map]; omega), k H2 _ (e1.trans e2) (RowsG.app (e2 rp _ (e1 rp _ h1)) h2 (fun q hq => ⟨(h3 q hq).1, ?_⟩) hp hR hG)⟩
  obtain ⟨r, a, b⟩ := (h3 q hq).2
  exact ⟨r, a.ex (e1.trans e2), b⟩
end
end My

set_option Elab.async false
set_option linter.all false
set_option maxRecDepth 100000
set_option maxHeartbeats 4000000
namespace My
open PySem PySem.Spec PyProof.Rows L2 Evl
open SX (S S_len S_cat S_beq S_beq_eq S_inj S_tl)
section
variable {K : PySem.W.Frag} {σ : L2.St} {H : Hp} {ta tb tc te tl : TE} {x y z v : V} {D : Ends} {tu tz : TS} {G : Parts → Prop} {sp : Sp} {E : XK} {to th : TO}
theorem ev_call2R (ha : Ev ta σ H x) (hb : ER tb σ H G) (hs : ∀ p H1 row, Ex H H1 → RowT H1 p row → G row → SpV sp [x, .ref p] H1 z) : Ev (tCall sp [] E (tCons ta (tCons tb tNil))) σ H z := fun H0 e0 Q q =>
  ha H0 e0 _ fun H1 e1 => hb H1 (e0.trans e1) _ fun p H2 row _ e2 hR g => hs p H2 row ((e0.trans e1).trans e2) hR g H2 (Ex.refl H2) Q (fun H3 e3 => q H3 ((e1.trans e2).trans e3)) E
theorem ev_call2W (ha : Ev ta σ H x) (hb : EW tb σ H G) (hs : ∀ p H1 row, Ex H H1 → RowT H1 p row → G row → SpV sp [x, .ref p] H1 z) : Ev (tCall sp [] E (tCons ta (tCons tb tNil))) σ H z := fun H0 e0 Q q =>
  ha H0 e0 _ fun H1 e1 => hb H1 (e0.trans e1) _ fun p H2 row e2 hR g => hs p H2 row ((e0.trans e1).trans e2) hR g H2 (Ex.refl H2) Q (fun H3 e3 => q H3 ((e1.trans e2).trans e3)) E
theorem q_call3L {i : Nat} {xs : List V} (ha : Ev ta σ H x) (hb : EvL tb σ H xs) (hc : ∀ H1, Ex H H1 → Ev tc σ H1 y) (hs : ∀ p H1, H1 p = some (.lst xs) → Ex H H1 → sp [x, .ref p, y] H1 (fun v H2 => tz D (σ.set i (some v)) H2) E) : tSeq (tAsg (tCall sp [] E (tCons ta (tCons tb (tCons tc tNil)))) (gName i)) tz D σ H :=
  ha H (Ex.refl H) _ fun H1 e1 => hb H1 e1 _ fun p H2 _ e2 h2 => hc H2 (e1.trans e2) H2 (Ex.refl H2) _ fun H3 e3 => hs p H3 (e3 _ _ h2) ((e1.trans e2).trans e3)
theorem s_callL {i : Nat} {xs : List V} (hb : EvL tb σ H xs) (hs : ∀ p H1, H1 p = some (.lst xs) → Ex H H1 → sp [.ref p] H1 (fun v H2 => D.nx (σ.set i (some v)) H2) E) : tAsg (tCall sp [] E (tCons tb tNil)) (gName i) D σ H :=
  hb H (Ex.refl H) _ fun p H2 _ e2 h2 => hs p H2 h2 e2
theorem el_slN {xs : List V} {lo hi : Option Int} (h : EvL te σ H xs) (h1 : ∀ H1, Ex H H1 → EvO to σ H1 lo) (h2 : ∀ H1, Ex H H1 → EvO th σ H1 hi) : EvL (tSl (rSlL K) te to th) σ H (cutV xs lo hi) := fun H0 e0 Q q =>
  h H0 e0 _ fun a H1 na e1 ha => h1 H1 (e0.trans e1) H1 (Ex.refl H1) _ fun H2 e2 => h2 H2 ((e0.trans e1).trans e2) H2 (Ex.refl H2) _ fun H3 e3 => ⟨a, xs, rfl, sq_of (e3 _ _ (e2 _ _ ha)), fun p hp => q p _ (fresh_back ((e1.trans e2).trans e3) hp) (((e1.trans e2).trans e3).trans (Ex.new hp)) upd_same⟩
/-- [f(part) for part in row] -/
theorem q_mapParts {i j : Nat} {B : Parts} (f : Int × Int → Int × Int) (h : ER tl σ H (fun r => r = B)) (hz : B.length ≤ 40000) (hw : ∀ x, wipe ((wipe σ [j]).set j (some x)) [j] = wipe σ [j])
    (he : ∀ (q : Addr) (pt : Int × Int) H1, Ex H H1 → H1 q = some (.tup (pV pt)) → EvU te ((wipe σ [j]).set j (some (.ref q))) H1 (pV (f pt)))
    (k : ∀ p2 H2, H p2 = none → Ex H H2 → RowT H2 p2 (B.map f) → tz D (σ.set i (some (.ref p2))) H2) : tSeq (tAsg (tLc (iList K tl) (gName j) tYes te [j]) (gName i)) tz D σ H := h H (Ex.refl H) _ fun p H2 row np e2 hR hB => by
  subst hB
  obtain ⟨ps, hp, hg⟩ := hR.pl
  have hl := hg.len
  refine ⟨p, rfl, ⟨ps.map V.ref, sq_of hp⟩, fun Dl hD => lc_list (K := K) (xs := ps.map V.ref) (fun i H' => ∃ qs : List Addr, Ex H2 H' ∧ H' Dl = some (.lst (qs.map V.ref)) ∧ Pl .tup H' qs ((row.map f).take i)) ⟨[], Ex.new hD, upd_same, trivial⟩ (fun i H' _ ⟨qs, e, _⟩ => sq_of (e _ _ hp)) (fun i x H' hx ⟨qs, e, hDl, hq⟩ => ?_) (fun H' ⟨qs, e, hDl, hq⟩ => ?_)⟩
  · obtain ⟨rfl, hi0⟩ := ref_at hx
    have hi : i < row.length := by omega
    have hpi := e _ _ (hg.get i hi)
    refine ⟨hw _, show te ((wipe σ [j]).set j (some (.ref (ps.getD i 0)))) H' (fun y H4 => ∃ acc, H4 Dl = some (.lst acc) ∧ acc.length < sizeLine ∧ ∃ qs : List Addr, Ex H2 (upd H4 Dl (.lst (acc ++ [y]))) ∧ (upd H4 Dl (.lst (acc ++ [y]))) Dl = some (.lst (qs.map V.ref)) ∧ Pl .tup (upd H4 Dl (.lst (acc ++ [y]))) qs ((row.map f).take (i + 1))) from
      he _ _ H' (e2.trans e) hpi H' (Ex.refl H') _ fun tp H4 nt e4 ht => ⟨qs.map V.ref, e4 _ _ hDl, ?_, qs ++ [tp], ?_, ?_, ?_⟩⟩
    · rw [List.length_map, hq.len, List.length_take]
      exact sz_lt (by omega)
    · exact Ex.mut (e.trans e4) hD
    · rw [List.map_append]
      exact upd_same
    · have hi2 : i < (row.map f).length := by rw [List.length_map]; exact hi
      rw [List.take_succ_eq_append_getElem hi2]
      have keep : ∀ {q : Addr} {xs : List V}, H4 q = some (.tup xs) → (upd H4 Dl (.lst (qs.map V.ref ++ [.ref tp]))) q = some (.tup xs) := fun {q xs} hq1 => by
        rw [upd_ne (ne_of hq1 (e4 _ _ hDl) (by intro z; cases z))]
        exact hq1
      refine Pl.app (Pl.of hq.len fun k hk => keep (e4 _ _ (hq.get k hk))) ⟨?_, trivial⟩
      refine keep ?_
      rw [ht, List.getElem_map, List.getD_eq_getElem?_getD, List.getElem?_eq_getElem hi]
      rfl
  · have e0 : (ps.map V.ref).length = (row.map f).length := by rw [List.length_map, List.length_map, hl]
    rw [e0, List.take_length] at hq
    exact k Dl H' (fresh_back e2 hD) (e2.trans e) (Row.of hDl hq)
/-! ### loops over rows -/
def EG (tl : TE) (σ : L2.St) (H : Hp) (G : Parts → Prop) : Prop := ∀ Q : VK, (∀ rp n H2, Ex H H2 → RowsG H2 rp n G → Q (.ref rp) H2) → tl σ H Q
theorem s_forRows {j : Nat} (h : EG tl σ H G) (Sx : L2.St → Prop) (h0 : Sx σ)
    (hs : ∀ Hb, Ex H Hb → ∀ q row σ' H', Sx σ' → Ex Hb H' → RowT H' q row → G row → tu { D with nx := fun σ2 H2 => Sx σ2 ∧ Ex Hb H2, ct := fun σ2 H2 => Sx σ2 ∧ Ex Hb H2, bk := D.nx } (σ'.set j (some (.ref q))) H')
    (hd : ∀ σ' H', Sx σ' → Ex H H' → D.nx σ' H') : tFor (iList K tl) (gName j) tu D σ H := h _ fun rp n Hb eb hG => by
  obtain ⟨qs, h1, h2, h3⟩ := hG
  refine ⟨rp, rfl, ⟨qs.map V.ref, sq_of h1⟩, for_list (K := K) (xs := qs.map V.ref) (fun i σ' H' => Sx σ' ∧ Ex Hb H') ⟨h0, Ex.refl Hb⟩ (fun i σ' H' _ p => sq_of (p.2 _ _ h1)) (fun i x σ' H' hx p => ?_) (fun σ' H' p => hd σ' H' p.1 (eb.trans p.2))⟩
  obtain ⟨rfl, hi⟩ := ref_at hx
  obtain ⟨_, row, hR, hg⟩ := h3 (qs.getD i 0) (by rw [List.getD_eq_getElem?_getD, List.getElem?_eq_getElem hi]; exact List.getElem_mem hi)
  exact hs Hb eb _ row σ' H' p.1 p.2 (hR.ex p.2) hg
theorem q_forRows {j : Nat} (h : EG tl σ H G) (Sx : L2.St → Prop) (h0 : Sx σ)
    (hs : ∀ Hb, Ex H Hb → ∀ q row σ' H', Sx σ' → Ex Hb H' → RowT H' q row → G row → tu { D with nx := fun σ2 H2 => Sx σ2 ∧ Ex Hb H2, ct := fun σ2 H2 => Sx σ2 ∧ Ex Hb H2, bk := tz D } (σ'.set j (some (.ref q))) H')
    (hd : ∀ σ' H', Sx σ' → Ex H H' → tz D σ' H') : tSeq (tFor (iList K tl) (gName j) tu) tz D σ H := s_forRows (D := { D with nx := tz D }) h Sx h0 hs hd
theorem row_ne {H : Hp} {rp p : Addr} {n : Nat} {row : Parts} (h : RowsG H rp n G) (hn : 0 < n) (hR : RowT H p row) : p ≠ rp := by
  rintro rfl
  obtain ⟨qs, h1, h2, h3⟩ := h
  obtain ⟨ps, hp, hg⟩ := hR.pl
  rw [h1] at hp
  have e := HO.lst.inj (Option.some.inj hp)
  have hl := hg.len
  cases qs with
  | nil => simp at h2; omega
  | cons q qs =>
    cases ps with
    | nil => cases e
    | cons p2 ps =>
      cases row with
      | nil => cases hl
      | cons pt r =>
        have e2 : q = p2 := V.ref.inj (List.cons.inj e).1
        obtain ⟨_, r2, ⟨ps2, a, _⟩, _⟩ := h3 q List.mem_cons_self
        have b := hg.1
        rw [← e2, a] at b
        cases b
/-- rows + [[]] -/
theorem eg_more {rp : Addr} {n : Nat} (ha : Ev ta σ H (.ref rp)) (h : RowsG H rp n G) (hn : n ≤ 1000) (g0 : G []) : EG (tOp rCat ta (tLst (tCons (tLst tNil) tNil))) σ H G := fun Q q =>
  ha H (Ex.refl H) _ fun H1 e1 => by
    obtain ⟨qs, h1, h2, h3⟩ := h.ex e1
    refine el_lst (σ := σ) (H := H1) ea_nil (by decide) H1 (Ex.refl H1) (fun v H2 => [v].length ≤ sizeLine ∧ ∀ p, H2 p = none → (fun y H3 => rCat (.ref rp) y H3 Q) (.ref p) (upd H2 p (.lst [v]))) fun a H2 na e2 ha2 => ⟨by show 1 ≤ sizeLine; decide, fun b hb => ?_⟩
    have e3 : Ex H2 (upd H2 b (.lst [V.ref a])) := Ex.new hb
    have h1b := e3 _ _ (e2 _ _ h1)
    refine ⟨rp, b, qs.map V.ref, [.ref a], rfl, rfl, h1b, upd_same, by rw [List.length_map, h2]; show n + 1 ≤ sizeLine; exact sz_of (by omega), fun l hl => q l (n + 1) _ (((e1.trans e2).trans e3).trans (Ex.new hl)) ⟨qs ++ [a], by rw [List.map_append]; exact upd_same, by rw [List.length_append, h2]; rfl, fun q1 hq1 => ?_⟩⟩
    rcases List.mem_append.mp hq1 with hm | hm
    · obtain ⟨_, row, hR, hg⟩ := h3 q1 hm
      have hR2 := (hR.ex e2).ex e3
      obtain ⟨ps, hp, _⟩ := hR2.pl
      exact ⟨ne_of_none hp hl, row, hR2.ex (Ex.new hl), hg⟩
    · simp at hm
      subst hm
      have ha3 := e3 _ _ ha2
      exact ⟨ne_of_none ha3 hl, [], Row.of (ps := []) ((Ex.new hl) _ _ ha3) trivial, g0⟩
theorem ev_rowAt {rp : Addr} {n : Nat} {i : Int} (h : RowsG H rp n G) (h0 : 0 ≤ i) (h1 : i < (n : Int)) (ha : Ev ta σ H (.ref rp)) (hb : Ev tb σ H (.int i)) : ∃ q row, RowT H q row ∧ G row ∧ Ev (tOp (rIxL K) ta tb) σ H (.ref q) := by
  obtain ⟨qs, hp, hl, hg⟩ := h
  have hi : i.toNat < qs.length := by omega
  obtain ⟨_, row, hR, g⟩ := hg (qs.getD i.toNat 0) (by rw [List.getD_eq_getElem?_getD, List.getElem?_eq_getElem hi]; exact List.getElem_mem hi)
  refine ⟨_, row, hR, g, ev_op ha hb (rv_ixL (K := K) (sq_of hp) ?_)⟩
  have e : i = ((i.toNat : Nat) : Int) := by omega
  rw [e]
  exact atI_ref hi
end
theorem q_rowAt {K : PySem.W.Frag} {σ : L2.St} {H : Hp} {ta tb : TE} {D : Ends} {tz : TS} {G : Parts → Prop} {j : Nat} {rp : Addr} {n : Nat} {i : Int} (h : RowsG H rp n G) (h0 : 0 ≤ i) (h1 : i < (n : Int)) (ha : Ev ta σ H (.ref rp)) (hb : Ev tb σ H (.int i)) (k : ∀ q row H1, Ex H H1 → RowT H1 q row → G row → tz D (σ.set j (some (.ref q))) H1) : tSeq (tAsg (tOp (rIxL K) ta tb) (gName j)) tz D σ H := by
  obtain ⟨q, row, hR, hG, he⟩ := ev_rowAt (K := K) h h0 h1 ha hb
  exact q_asg he fun H1 e1 => k q row H1 e1 (hR.ex e1) hG
theorem within_drop : ∀ {ds ss : List Int} (n : Nat), Within ds ss → Within (ds.drop n) (ss.drop n)
  | _, _, 0, h => h
  | [], [], n + 1, h => h
  | d :: ds, s :: ss, n + 1, h => within_drop n h.2
  | [], _ :: _, _ + 1, h => h.elim
  | _ :: _, [], _ + 1, h => h.elim
theorem within_mem {b : Int} : ∀ {ds ss : List Int}, Within ds ss → (∀ s ∈ ss, s ≤ b) → ∀ z ∈ ds, 0 ≤ z ∧ z < b
  | [], [], _, _, z, hz => by cases hz
  | d :: ds, s :: ss, h, hb, z, hz => by
    rcases List.mem_cons.mp hz with rfl | hz
    · have := hb s List.mem_cons_self
      exact ⟨h.1.1, Int.lt_of_lt_of_le h.1.2 this⟩
    · exact within_mem h.2 (fun s hs => hb s (List.mem_cons_of_mem _ hs)) z hz
  | [], _ :: _, h, _, _, _ => h.elim
  | _ :: _, [], h, _, _, _ => h.elim
end My

set_option Elab.async false
set_option linter.all false
set_option maxRecDepth 100000
set_option maxHeartbeats 4000000
namespace My
open PySem PySem.Spec PyProof.Rows L2 Evl
open SX (S S_len S_cat S_beq S_beq_eq S_inj S_tl)
/-! ### text[::-1] -/
theorem rev_is (l : List Nat) (u : Tok) : Txt.sliceBy (S l) none none (-1, u) = S l.reverse := by
  have h := step_rev_list (S l) u
  have e : (List.range (S l).length).map (fun k => (S l).cps.getD ((S l).length - 1 - k) 0) = l.reverse := by
    apply List.ext_getElem?
    intro i
    rw [List.getElem?_map]
    have hl : (S l).length = l.length := S_len l
    rw [hl]
    by_cases c : i < l.length
    · rw [List.getElem?_range c, List.getElem?_reverse c]
      show some ((S l).cps.getD (l.length - 1 - i) 0) = _
      have : l.length - 1 - i < l.length := by omega
      rw [List.getElem?_eq_getElem this]
      congr 1
      show l.toArray.getD _ 0 = _
      simp [this]
    · rw [List.getElem?_eq_none (by simp; omega), List.getElem?_eq_none (by simp; omega)]
      rfl
  rw [e] at h
  generalize Txt.sliceBy (S l) none none (-1, u) = z at h
  obtain ⟨⟨c⟩⟩ := z
  have h2 : c = l.reverse := h
  rw [h2]
def tRevS (te : TE) : TE := fun σ H Q => te σ H fun x H1 => ∃ l : List Nat, x = .str (S l) ∧ l.length ≤ 1000000 ∧ Q (.str (S l.reverse)) H1
theorem pe_revS {X : Cx} {e : Expr} {te : TE} {k : Nat} {p1 p2 p3 pos : Pos} (he : PE X e te) : PE X (.Subscript e (.Slice none none (some (.UnaryOp .USub (.Constant (.int 1) k p1) p2)) p3) pos) (tRevS te) := by
  refine ⟨fun pins s σ H Q I h => ?_⟩
  refine Subscript_ (thn (he.run pins s σ H _ I h) fun v s1 ⟨x, H1, I1, r1, q1⟩ => ?_)
  obtain ⟨l, ex, hz, q⟩ := q1
  subst ex
  obtain ⟨t, rfl⟩ := r1
  have hst : PO X (some (.UnaryOp .USub (.Constant (.int 1) k p1) p2)) (tPart (tUn (rU fun i => .int (-i)) (tC (.int 1)))) := po_some (pe_un un_neg pe_int)
  refine wpAny_Slice (thn (po_none.run pins s1 σ H1 (fun o H2 => o = none ∧ H2 = H1) I1 ⟨rfl, rfl⟩) fun vl s2 ⟨l2, H2, I2, pl, el, e2⟩ => ?_)
  subst el e2
  refine thn (po_none.run pins s2 σ H2 (fun o H3 => o = none ∧ H3 = H2) I2 ⟨rfl, rfl⟩) fun vu s3 ⟨u, H3, I3, pu, eu, e3⟩ => ?_
  subst eu e3
  refine thn (hst.run pins s3 σ H3 (fun o H4 => o = some (-1) ∧ H4 = H3) I3 ⟨1, rfl, -1, rfl, rfl, rfl⟩) fun vs s4 ⟨o, H4, I4, ps, eo, e4⟩ => ?_
  subst eo e4
  have I5 : Inv X pins σ H4 { s4 with heap := s4.heap.push { cls := .type "slice", data := .fields #[vl, vu, vs] } } := I4.kept (t' := s4.toks) fun b ob q => Heap.get?_push_of_some _ q
  cases pl
  cases pu
  obtain ⟨st, hvs, hst2⟩ := IsPart.raw ps
  cases st with
  | none => cases hst2
  | some st =>
    obtain ⟨i, u⟩ := st
    have hi : i = -1 := Option.some.inj hst2
    subst hi
    subst hvs
    show wpAny (model X.prog X.w) X.A (subscriptTail e (.Slice none none (some (.UnaryOp .USub (.Constant (.int 1) k p1) p2)) p3) (.str (S l) t) (.ref s4.heap.objs.size)) (EP X pins σ Q) X.xe { s4 with heap := s4.heap.push { cls := .type "slice", data := .fields #[.none, .none, partValue (some (-1, u))] } }
    refine tail_any (ops := [.ref s4.heap.objs.size, .str (S l) t]) (typeIs_str _ _ _) PySem.F.slot_str_getitem.lookup ?_ (by with_unfolding_all rfl)
    refine wpAny_getItem_str_slice (l := none) (u := none) (st := some (-1, u)) ⟨_, Heap.get?_push_size _ rfl, rfl, rfl⟩ rfl ?_
    have hr := rev_is l u
    have hle : (S l.reverse).length ≤ sizeLine := by
      rw [S_len, List.length_reverse]
      exact Nat.le_trans hz (by decide)
    rw [← hr] at q hle
    unfold Txt.sliceBy at q hle
    unfold sliceMade
    have hc : ¬ ((((some ((-1 : Int), u)).map (·.1)).getD 1 == 1 && (slicePicked (S l) none none (some (-1, u))).length == (S l).length) = true) := by
      have : (((some ((-1 : Int), u)).map (·.1)).getD 1 == 1) = false := rfl
      rw [this]
      simp
    rw [if_neg hc] at q hle ⊢
    exact ⟨hle, .str _, _, I5.tok _, ⟨_, rfl⟩, q⟩
section
variable {K : PySem.W.Frag} {σ : L2.St} {H : Hp} {ta tb tc te tl : TE} {x y z v : V} {D : Ends} {tu tz : TS} {G : Parts → Prop} {sp : Sp} {E : XK}
theorem ev_revS {l : List Nat} (h : Ev te σ H (.str (S l))) (hz : l.length ≤ 1000000) : Ev (tRevS te) σ H (.str (S l.reverse)) := fun H1 e Q q => h H1 e _ fun H2 e2 => ⟨l, rfl, hz, q H2 e2⟩
theorem er_revL {p : Addr} {row : Parts} (h : Ev te σ H (.ref p)) (hR : RowT H p row) : ER (tRevL K te) σ H (fun r => r = row.reverse) := fun H1 e Q q => h H1 e _ fun H2 e2 => by
  obtain ⟨ps, hp, hl, hg⟩ := hR
  have hp2 := e2 _ _ (e _ _ hp)
  refine ⟨p, _, rfl, sq_of hp2, fun np hnp => q np _ row.reverse (fresh_back e2 hnp) (e2.trans (Ex.new hnp)) ?_ rfl⟩
  refine ⟨ps.reverse, by rw [upd_same, List.map_reverse], by rw [List.length_reverse, List.length_reverse, hl], fun k hk => ?_⟩
  rw [List.length_reverse] at hk
  have e1 : ps.reverse.getD k 0 = ps.getD (row.length - 1 - k) 0 := by
    rw [List.getD_eq_getElem?_getD, List.getD_eq_getElem?_getD, List.getElem?_reverse (by omega), hl]
  have e3 : row.reverse.getD k (0, 0) = row.getD (row.length - 1 - k) (0, 0) := by
    rw [List.getD_eq_getElem?_getD, List.getD_eq_getElem?_getD, List.getElem?_reverse (by omega)]
  rw [e1, e3]
  have g := e2 _ _ (e _ _ (hg (row.length - 1 - k) (by omega)))
  have n : ps.getD (row.length - 1 - k) 0 ≠ np := fun z => by rw [z, hnp] at g; cases g
  rw [upd_ne n]
  exact g
/-- [f(part) for part in row] as a value -/
theorem er_mapParts {j : Nat} {B : Parts} (f : Int × Int → Int × Int) (h : ER tl σ H (fun r => r = B)) (hz : B.length ≤ 40000) (hw : ∀ x, wipe ((wipe σ [j]).set j (some x)) [j] = wipe σ [j])
    (he : ∀ (q : Addr) (pt : Int × Int) H1, Ex H H1 → H1 q = some (.tup (pV pt)) → EvU te ((wipe σ [j]).set j (some (.ref q))) H1 (pV (f pt))) :
    ER (tLc (iList K tl) (gName j) tYes te [j]) σ H (fun r => r = B.map f) := fun H0 e0 Q k => h H0 e0 _ fun p H2 row np e2 hR hB => by
  subst hB
  obtain ⟨ps, hp, hg⟩ := hR.pl
  have hl := hg.len
  refine ⟨p, rfl, ⟨ps.map V.ref, sq_of hp⟩, fun Dl hD => lc_list (K := K) (xs := ps.map V.ref) (fun i H' => ∃ qs : List Addr, Ex H2 H' ∧ H' Dl = some (.lst (qs.map V.ref)) ∧ Pl .tup H' qs ((row.map f).take i)) ⟨[], Ex.new hD, upd_same, trivial⟩ (fun i H' _ ⟨qs, e, _⟩ => sq_of (e _ _ hp)) (fun i x H' hx ⟨qs, e, hDl, hq⟩ => ?_) (fun H' ⟨qs, e, hDl, hq⟩ => ?_)⟩
  · obtain ⟨rfl, hi0⟩ := ref_at hx
    have hi : i < row.length := by omega
    have hpi := e _ _ (hg.get i hi)
    refine ⟨hw _, show te ((wipe σ [j]).set j (some (.ref (ps.getD i 0)))) H' (fun y H4 => ∃ acc, H4 Dl = some (.lst acc) ∧ acc.length < sizeLine ∧ ∃ qs : List Addr, Ex H2 (upd H4 Dl (.lst (acc ++ [y]))) ∧ (upd H4 Dl (.lst (acc ++ [y]))) Dl = some (.lst (qs.map V.ref)) ∧ Pl .tup (upd H4 Dl (.lst (acc ++ [y]))) qs ((row.map f).take (i + 1))) from
      he _ _ H' ((e0.trans e2).trans e) hpi H' (Ex.refl H') _ fun tp H4 nt e4 ht => ⟨qs.map V.ref, e4 _ _ hDl, ?_, qs ++ [tp], ?_, ?_, ?_⟩⟩
    · rw [List.length_map, hq.len, List.length_take]
      exact sz_lt (by omega)
    · exact Ex.mut (e.trans e4) hD
    · rw [List.map_append]
      exact upd_same
    · have hi2 : i < (row.map f).length := by rw [List.length_map]; exact hi
      rw [List.take_succ_eq_append_getElem hi2]
      have keep : ∀ {q : Addr} {xs : List V}, H4 q = some (.tup xs) → (upd H4 Dl (.lst (qs.map V.ref ++ [.ref tp]))) q = some (.tup xs) := fun {q xs} hq1 => by
        rw [upd_ne (ne_of hq1 (e4 _ _ hDl) (by intro z; cases z))]
        exact hq1
      refine Pl.app (Pl.of hq.len fun k hk => keep (e4 _ _ (hq.get k hk))) ⟨?_, trivial⟩
      refine keep ?_
      rw [ht, List.getElem_map, List.getD_eq_getElem?_getD, List.getElem?_eq_getElem hi]
      rfl
  · have e9 : (ps.map V.ref).length = (row.map f).length := by rw [List.length_map, List.length_map, hl]
    rw [e9, List.take_length] at hq
    exact k Dl H' _ (fresh_back e2 hD) (e2.trans e) (Row.of hDl hq) rfl
theorem ev_find {s y : Str} {i : Int} (ha : Ev ta σ H (.str s)) (hb : Ev tb σ H (.str y)) (hc : Ev tc σ H (.int i)) : Ev (tBM K "str" (fun x xs H Q => ∃ (a b : Str) (i : Int), x = .str a ∧ xs = [.str b, .int i] ∧ Q (.int (Txt.find3 a b i)) H) ta (tCons tb (tCons tc tNil))) σ H (.int (Txt.find3 s y i)) := fun H1 e Q q =>
  ha H1 e _ fun H2 e2 => ⟨rfl, hb H2 (e.trans e2) _ fun H3 e3 => hc H3 ((e.trans e2).trans e3) _ fun H4 e4 => ⟨s, y, i, rfl, rfl, q H4 ((e2.trans e3).trans e4)⟩⟩
end
/-! ### find -/
open PySem.StrLaws in
theorem occ_lo (s sub : Str) (lo hi limit : Nat) : ∀ (l : List Nat) (st : Array Nat × Nat), lo ≤ st.snd → (∀ i ∈ st.fst, lo ≤ i) → ∀ i ∈ (forIn l st (occBody s sub hi limit)).run.fst, lo ≤ i
  | [], st, _, h => h
  | a :: l, st, hf, h => by
    rw [List.forIn_cons]
    unfold occBody
    split
    · rename_i hc
      refine occ_lo s sub lo hi limit l _ ?_ ?_
      · have := hc.1.1.2
        show lo ≤ a + sub.length
        omega
      · intro i hi'
        simp only [Array.mem_push] at hi'
        rcases hi' with hm | rfl
        · exact h i hm
        · have := hc.1.1.2
          omega
    · exact occ_lo s sub lo hi limit l _ hf h
theorem find_in {l w : List Nat} {r : Nat} (h : 0 ≤ Txt.find3 (S l) (S w) (r : Int)) : ∃ k : Nat, Txt.find3 (S l) (S w) (r : Int) = (k : Int) ∧ (r ≤ l.length → r ≤ k) ∧ k + w.length ≤ l.length ∧ (l.drop k).take w.length = w := by
  revert h
  unfold Txt.find3
  cases hm : Builtin.Str.occurrences (S l) (S w) (fromIndex (S l).length (r : Int)) (S l).length 1 with
  | nil => intro h; exact absurd h (by decide)
  | cons k t =>
    intro _
    have hk : k ∈ Builtin.Str.occurrences (S l) (S w) (fromIndex (S l).length (r : Int)) (S l).length 1 := by rw [hm]; exact List.mem_cons_self ..
    obtain ⟨h1, h2⟩ := PySem.StrLaws.occ_spec _ _ _ _ _ _ hk
    rw [PySem.StrLaws.subAt_eq] at h2
    refine ⟨k, rfl, fun hr => ?_, by rw [S_len, S_len] at h1; exact h1, ?_⟩
    · rw [PySem.StrLaws.occ_eq] at hk
      have hlo := occ_lo (S l) (S w) (fromIndex (S l).length (r : Int)) (S l).length 1 _ (#[], fromIndex (S l).length (r : Int)) (Nat.le_refl _) (fun j hj => absurd hj (Array.not_mem_empty j)) k (by simpa using hk)
      have : fromIndex (S l).length (r : Int) = r := by
        unfold fromIndex
        rw [if_neg (by omega)]
        omega
      omega
    · have := eq_of_beq h2
      rw [S_len] at this
      exact this
end My

set_option Elab.async false
set_option linter.all false
set_option maxRecDepth 100000
set_option maxHeartbeats 4000000
namespace My
/-! ### all words over a list of letters -/
def wordsOf (abc : List Nat) : Nat → List (List Nat)
  | 0 => [[]]
  | k + 1 => abc.flatMap fun c => (wordsOf abc k).map (c :: ·)
def uptoW (abc : List Nat) : Nat → List (List Nat)
  | 0 => []
  | m + 1 => uptoW abc m ++ wordsOf abc (m + 1)
theorem sum_const {α : Type} (l : List α) (n : Nat) : (l.map fun _ => n).sum = l.length * n := by
  induction l with
  | nil => simp
  | cons a l ih => rw [List.map_cons, List.sum_cons, ih, List.length_cons, Nat.add_mul]; omega
theorem wordsOf_len (abc : List Nat) : ∀ k, (wordsOf abc k).length = abc.length ^ k
  | 0 => rfl
  | k + 1 => by
    show (abc.flatMap fun c => (wordsOf abc k).map (c :: ·)).length = _
    rw [List.length_flatMap]
    have : (abc.map fun c => ((wordsOf abc k).map (c :: ·)).length) = abc.map fun _ => abc.length ^ k := by
      apply List.map_congr_left
      intro c _
      rw [List.length_map, wordsOf_len abc k]
    rw [this, sum_const, Nat.pow_succ, Nat.mul_comm]
theorem mem_wordsOf {abc : List Nat} : ∀ {k : Nat} {u : List Nat}, u.length = k → (∀ c ∈ u, c ∈ abc) → u ∈ wordsOf abc k
  | 0, u, h, _ => by
    have : u = [] := List.length_eq_zero_iff.mp h
    subst this
    exact List.mem_singleton.mpr rfl
  | k + 1, [], h, _ => by cases h
  | k + 1, c :: u, h, hc => by
    refine List.mem_flatMap.mpr ⟨c, hc c (List.mem_cons_self ..), List.mem_map.mpr ⟨u, ?_, rfl⟩⟩
    exact mem_wordsOf (by simpa using h) fun d hd => hc d (List.mem_cons_of_mem _ hd)
theorem uptoW_len (abc : List Nat) : ∀ m, (uptoW abc m).length = Sn abc.length m
  | 0 => rfl
  | m + 1 => by
    show (uptoW abc m ++ wordsOf abc (m + 1)).length = Sn abc.length m + abc.length ^ (m + 1)
    rw [List.length_append, uptoW_len abc m, wordsOf_len]
theorem mem_uptoW {abc u : List Nat} (h0 : u ≠ []) (hc : ∀ c ∈ u, c ∈ abc) : ∀ {m : Nat}, u.length ≤ m → u ∈ uptoW abc m
  | 0, h => absurd (List.length_eq_zero_iff.mp (Nat.le_zero.mp h)) h0
  | m + 1, h => by
    refine List.mem_append.mpr ?_
    by_cases e : u.length = m + 1
    · exact Or.inr (mem_wordsOf e hc)
    · exact Or.inl (mem_uptoW h0 hc (by omega))
/-! ### different words have many letters -/
def Words (abc : List Nat) (ws : List (List Nat)) : Prop := ws.Nodup ∧ ∀ u ∈ ws, u ≠ [] ∧ ∀ c ∈ u, c ∈ abc
def cntW (m : Nat) (ws : List (List Nat)) : Nat := (ws.filter fun u => decide (u.length ≤ m)).length
def slack (w : Nat) (ws : List (List Nat)) : Nat := (ws.map fun u => w + 1 - u.length).sum
theorem cntW_le {abc : List Nat} {ws : List (List Nat)} (h : Words abc ws) (m : Nat) : cntW m ws ≤ Sn abc.length m := by
  rw [← uptoW_len]
  refine List.Nodup.length_le_of_subset (List.Pairwise.filter _ h.1) ?_
  intro u hu
  obtain ⟨h1, h2⟩ := List.mem_filter.mp hu
  obtain ⟨h3, h4⟩ := h.2 u h1
  exact mem_uptoW h3 h4 (of_decide_eq_true h2)
theorem slack_succ (w : Nat) (ws : List (List Nat)) : slack (w + 1) ws = slack w ws + cntW (w + 1) ws := by
  unfold slack cntW
  induction ws with
  | nil => rfl
  | cons u ws ih =>
    rw [List.map_cons, List.sum_cons, List.map_cons, List.sum_cons, ih]
    by_cases c : u.length ≤ w + 1
    · rw [List.filter_cons_of_pos (by simpa using c), List.length_cons]
      omega
    · rw [List.filter_cons_of_neg (by simpa using c)]
      omega
theorem slack_zero {abc : List Nat} {ws : List (List Nat)} (h : Words abc ws) : slack 0 ws = 0 := by
  unfold slack
  have : (ws.map fun u => 0 + 1 - u.length) = ws.map fun _ => 0 := by
    apply List.map_congr_left
    intro u hu
    have := (h.2 u hu).1
    have : 0 < u.length := List.length_pos_iff.mpr this
    omega
  rw [this, sum_const, Nat.mul_zero]
theorem slack_le {abc : List Nat} {ws : List (List Nat)} (h : Words abc ws) : ∀ w, slack w ws + Bn abc.length w ≤ (w + 1) * Sn abc.length w
  | 0 => by rw [slack_zero h]; exact Nat.le_refl _
  | w + 1 => by
    have ih := slack_le h w
    have hc := cntW_le h (w + 1)
    rw [slack_succ]
    have e1 : Sn abc.length (w + 1) = Sn abc.length w + abc.length ^ (w + 1) := rfl
    have e2 : Bn abc.length (w + 1) = Bn abc.length w + (w + 1) * abc.length ^ (w + 1) := rfl
    have e3 : (w + 1 + 1) * Sn abc.length (w + 1) = (w + 1) * Sn abc.length w + (w + 1) * abc.length ^ (w + 1) + Sn abc.length (w + 1) := by
      rw [Nat.add_mul (w + 1) 1, Nat.one_mul]
      congr 1
      rw [e1, Nat.mul_add]
    rw [e3, e2]
    omega
theorem len_slack (w : Nat) (ws : List (List Nat)) : (w + 1) * ws.length ≤ (ws.map List.length).sum + slack w ws := by
  unfold slack
  induction ws with
  | nil => simp
  | cons u ws ih =>
    rw [List.length_cons, Nat.mul_add, List.map_cons, List.sum_cons, List.map_cons, List.sum_cons]
    omega
theorem words_tot {abc : List Nat} {ws : List (List Nat)} (hs : 1 ≤ abc.length) (h : Words abc ws) : totF abc.length ws.length ≤ (ws.map List.length).sum := by
  obtain ⟨w, j, hc, hj, ht⟩ := totF_spec (s := abc.length) (c := ws.length) hs
  rw [ht]
  have h1 := len_slack w ws
  have h2 := slack_le h w
  rw [hc, Nat.mul_add] at h1
  omega
theorem words_most {abc : List Nat} {ws : List (List Nat)} {L : Nat} (hs : 1 ≤ abc.length) (h : Words abc ws) (hL : (ws.map List.length).sum ≤ L) : ws.length ≤ grF abc.length L := by
  have h1 := words_tot hs h
  have h2 := (grF_spec (s := abc.length) (L := L) hs).2
  by_cases c : ws.length ≤ grF abc.length L
  · exact c
  · have := totF_le (s := abc.length) (c := grF abc.length L + 1) (d := ws.length) hs (by omega)
    omega
/-! ### unlike rows have no more parts -/
theorem seg_nn {l : List Nat} {a b : Nat} : seg l ((a : Int), (b : Int)) = (l.drop a).take (b - a) := by
  show cutL l (some (a : Int)) (some (b : Int)) = _
  rw [cutL_mid (by omega) (by omega)]
  rfl
theorem ord_lens {l : List Nat} : ∀ {lo : Int} {row : Parts}, 0 ≤ lo → lo ≤ (l.length : Int) → InOrd (l.length : Int) lo row → ((((row.map (seg l)).map List.length).sum : Nat) : Int) ≤ (l.length : Int) - lo
  | lo, [], _, h1, _ => by simp; omega
  | lo, p :: r, h0, h1, h => by
    obtain ⟨a, b, c, d⟩ := h
    obtain ⟨a', ha⟩ : ∃ a' : Nat, p.1 = (a' : Int) := ⟨p.1.toNat, by omega⟩
    obtain ⟨b', hb⟩ : ∃ b' : Nat, p.2 = (b' : Int) := ⟨p.2.toNat, by omega⟩
    have ih := ord_lens (lo := p.2) (row := r) (by omega) c d
    have hp : p = ((a' : Int), (b' : Int)) := Prod.ext ha hb
    rw [List.map_cons, List.map_cons, List.sum_cons, hp, seg_nn, List.length_take, List.length_drop]
    rw [hb] at ih b c
    rw [ha] at a b
    omega
theorem row_words {l abc : List Nat} {row : Parts} (h : goodF l row = true) (hl : ∀ c ∈ l, c ∈ abc) : Words abc (row.map (seg l)) := by
  obtain ⟨h1, h2⟩ := good_iff.mp h
  refine ⟨h2, fun u hu => ?_⟩
  obtain ⟨p, hp, rfl⟩ := List.mem_map.mp hu
  obtain ⟨a, b, _, c⟩ := ord_mem h1 p hp
  obtain ⟨a', ha⟩ : ∃ a' : Nat, p.1 = (a' : Int) := ⟨p.1.toNat, by omega⟩
  obtain ⟨b', hb⟩ : ∃ b' : Nat, p.2 = (b' : Int) := ⟨p.2.toNat, by omega⟩
  have hp2 : p = ((a' : Int), (b' : Int)) := Prod.ext ha hb
  rw [hp2, seg_nn]
  refine ⟨fun z => ?_, fun c hc => hl c (List.mem_of_mem_drop (List.mem_of_mem_take hc))⟩
  have := congrArg List.length z
  rw [List.length_take, List.length_drop] at this
  simp at this
  omega
theorem good_most {l abc : List Nat} {row : Parts} (hs : 1 ≤ abc.length) (h : goodF l row = true) (hl : ∀ c ∈ l, c ∈ abc) : row.length ≤ grF abc.length l.length := by
  have h1 := ord_lens (l := l) (Int.le_refl 0) (by omega) (good_iff.mp h).1
  have h2 := words_most (L := l.length) hs (row_words h hl) (by omega)
  rw [List.length_map] at h2
  exact h2
theorem good_len {l : List Nat} {row : Parts} (h : goodF l row = true) : row.length ≤ l.length := by
  have h1 := ord_lens (l := l) (Int.le_refl 0) (by omega) (good_iff.mp h).1
  have h2 := row_words h (abc := l) fun _ h => h
  have : ∀ ws : List (List Nat), (∀ u ∈ ws, u ≠ []) → ws.length ≤ (ws.map List.length).sum := by
    intro ws
    induction ws with
    | nil => intro _; exact Nat.zero_le _
    | cons u ws ih =>
      intro hh
      have := ih fun v hv => hh v (List.mem_cons_of_mem _ hv)
      have h3 : 0 < u.length := List.length_pos_iff.mpr (hh u (List.mem_cons_self ..))
      rw [List.length_cons, List.map_cons, List.sum_cons]
      omega
  have h4 := this (row.map (seg l)) fun u hu => (h2.2 u hu).1
  rw [List.length_map] at h4
  omega
/-! ### a row of the text turned about -/
def turnP (n : Int) (p : Int × Int) : Int × Int := (n - p.2, n - p.1)
theorem turn_ord {n : Int} : ∀ {lo : Int} {row : Parts}, 0 ≤ lo → lo ≤ n → InOrd n lo row → InOrd n 0 (row.reverse.map (turnP n)) ∧ endF 0 (row.reverse.map (turnP n)) ≤ n - lo
  | lo, [], _, h1, _ => ⟨trivial, by show (0 : Int) ≤ n - lo; omega⟩
  | lo, p :: r, h0, h1, h => by
    obtain ⟨a, b, c, d⟩ := h
    obtain ⟨i1, i2⟩ := turn_ord (lo := p.2) (row := r) (by omega) c d
    rw [List.reverse_cons, List.map_append]
    show InOrd n 0 (r.reverse.map (turnP n) ++ [turnP n p]) ∧ endF 0 (r.reverse.map (turnP n) ++ [turnP n p]) ≤ n - lo
    rw [end_snoc]
    refine ⟨ord_snoc.mpr ⟨i1, i2, ?_, ?_⟩, ?_⟩
    · show n - p.2 < n - p.1
      omega
    · show n - p.1 ≤ n
      omega
    · show n - p.1 ≤ n - lo
      omega
theorem turn_seg {l : List Nat} {p : Int × Int} (h0 : 0 ≤ p.1) (h1 : p.1 < p.2) (h2 : p.2 ≤ (l.length : Int)) : seg l (turnP (l.length : Int) p) = (seg l.reverse p).reverse := by
  obtain ⟨a', ha⟩ : ∃ a' : Nat, p.1 = (a' : Int) := ⟨p.1.toNat, by omega⟩
  obtain ⟨b', hb⟩ : ∃ b' : Nat, p.2 = (b' : Int) := ⟨p.2.toNat, by omega⟩
  have hp : p = ((a' : Int), (b' : Int)) := Prod.ext ha hb
  have ht : turnP (l.length : Int) p = (((l.length - b' : Nat) : Int), ((l.length - a' : Nat) : Int)) := by
    rw [hp]
    exact Prod.ext (by show (l.length : Int) - (b' : Int) = _; omega) (by show (l.length : Int) - (a' : Int) = _; omega)
  rw [ht, hp, seg_nn, seg_nn, List.drop_reverse, List.take_reverse, List.reverse_reverse, List.length_take, List.drop_take]
  have e1 : min (l.length - a') l.length - (b' - a') = l.length - b' := by omega
  rw [e1]
theorem turn_good {l : List Nat} {row : Parts} (h : goodF l.reverse row = true) : goodF l (row.reverse.map (turnP (l.length : Int))) = true := by
  obtain ⟨h1, h2⟩ := good_iff.mp h
  rw [List.length_reverse] at h1
  refine good_iff.mpr ⟨(turn_ord (Int.le_refl 0) (by omega) h1).1, ?_⟩
  rw [List.map_map]
  have e : row.reverse.map (seg l ∘ turnP (l.length : Int)) = (row.map (seg l.reverse)).reverse.map List.reverse := by
    rw [← List.map_reverse, List.map_map]
    apply List.map_congr_left
    intro p hp
    obtain ⟨a, b, _, c⟩ := ord_mem h1 p (List.mem_reverse.mp hp)
    exact turn_seg a b c
  rw [e]
  refine List.pairwise_map.mpr (List.pairwise_reverse.mpr (List.Pairwise.imp ?_ h2))
  intro u v huv z
  exact huv (by have := congrArg List.reverse z; rw [List.reverse_reverse, List.reverse_reverse] at this; exact this.symm)
/-! ### the pieces of a cut -/
theorem tail_get {α : Type} (l : List α) (i : Nat) : l.tail[i]? = l[i + 1]? := by
  cases l with
  | nil => rfl
  | cons a l => rfl
theorem cut_words {text abc : List Nat} (hl : ∀ c ∈ text, c ∈ abc) : Words abc (piF (cutC text).1).tail ∧ (((piF (cutC text).1).tail).map List.length).sum ≤ text.length := by
  have C := cutOk text
  generalize (cutC text).1 = rows at C
  generalize (cutC text).2 = at_ at C
  have hj := C.joined
  refine ⟨⟨?_, fun u hu => ?_⟩, ?_⟩
  · refine List.pairwise_iff_getElem.mpr fun i j hi hj2 hij e => ?_
    rw [List.length_tail, piF_len] at hi hj2
    have e1 : (piF rows).getD (i + 1) [] = (piF rows).getD (j + 1) [] := by
      rw [List.getElem_tail, List.getElem_tail] at e
      rw [List.getD_eq_getElem?_getD, List.getD_eq_getElem?_getD, List.getElem?_eq_getElem (by rw [piF_len]; omega), List.getElem?_eq_getElem (by rw [piF_len]; omega), e]
    have := piF_inj C.nd C.par (i + 1) (j + 1) (by omega) (by omega) e1
    omega
  · refine ⟨fun z => ?_, fun c hc => hl c ?_⟩
    · obtain ⟨i, hi, hiu⟩ := List.getElem_of_mem hu
      rw [List.length_tail, piF_len] at hi
      rw [List.getElem_tail] at hiu
      obtain ⟨r, hr⟩ : ∃ r, rows[i]? = some r := ⟨_, List.getElem?_eq_getElem (by omega)⟩
      have := piF_row C.par hr
      rw [List.getD_eq_getElem?_getD, List.getElem?_eq_getElem (by rw [piF_len]; omega)] at this
      have h2 : (piF rows)[i + 1]'(by rw [piF_len]; omega) = (piF rows).getD r.1 [] ++ [r.2] := this
      rw [hiu, z] at h2
      simp at h2
    · rw [← hj]
      exact List.mem_append_left _ (List.mem_flatten.mpr ⟨u, hu, hc⟩)
  · have := congrArg List.length hj
    rw [List.length_append, List.length_flatten] at this
    omega
theorem cut_most {text abc : List Nat} (hs : 1 ≤ abc.length) (hl : ∀ c ∈ text, c ∈ abc) : (cutC text).1.length ≤ grF abc.length text.length := by
  obtain ⟨h1, h2⟩ := cut_words hl
  have := words_most hs h1 h2
  rw [List.length_tail, piF_len] at this
  omega
theorem sum_upto (f : Nat → Nat) (hf : ∀ i, f i ≤ i + 1) : ∀ n, 2 * ((List.range n).map f).sum ≤ n * (n + 1)
  | 0 => by simp
  | n + 1 => by
    have ih := sum_upto f hf n
    have := hf n
    rw [List.range_succ, List.map_append, List.sum_append]
    simp only [List.map_cons, List.map_nil, List.sum_cons, List.sum_nil]
    have e : (n + 1) * (n + 1 + 1) = n * (n + 1) + 2 * (n + 1) := by
      rw [Nat.mul_add (n + 1), Nat.mul_one, Nat.add_mul n 1 (n + 1)]
      omega
    omega
theorem cut_least (text : List Nat) : grF 1 text.length ≤ (cutC text).1.length := by
  have C := cutOk text
  generalize (cutC text).1 = rows at C
  generalize (cutC text).2 = at_ at C
  have hj := congrArg List.length C.joined
  rw [List.length_append, List.length_flatten] at hj
  have h1 := piF_short C.par at_ C.at_le
  have h2 := C.at_le
  have e : ((piF rows).tail).map List.length = (List.range rows.length).map fun i => ((piF rows).getD (i + 1) []).length := by
    apply List.ext_getElem?
    intro i
    rw [List.getElem?_map, List.getElem?_map, tail_get]
    by_cases c : i < rows.length
    · rw [List.getElem?_range c, List.getElem?_eq_getElem (by rw [piF_len]; omega)]
      show some _ = some ((piF rows).getD (i + 1) []).length
      rw [List.getD_eq_getElem?_getD, List.getElem?_eq_getElem (by rw [piF_len]; omega)]
      rfl
    · rw [List.getElem?_eq_none (by rw [piF_len]; omega), List.getElem?_eq_none (by rw [List.length_range]; omega)]
      rfl
  rw [e] at hj
  have key : 2 * ((List.range rows.length).map fun i => ((piF rows).getD (i + 1) []).length).sum ≤ rows.length * (rows.length + 1) := by
    have := sum_upto (fun i => min (((piF rows).getD (i + 1) []).length) (i + 1)) (fun i => Nat.min_le_right _ _) rows.length
    have e2 : ((List.range rows.length).map fun i => min (((piF rows).getD (i + 1) []).length) (i + 1)) = (List.range rows.length).map fun i => ((piF rows).getD (i + 1) []).length := by
      apply List.map_congr_left
      intro i hi
      have := piF_short C.par (i + 1) (by have := List.mem_range.mp hi; omega)
      show min _ _ = _
      omega
    rw [e2] at this
    exact this
  have hle := gr_le (grF_spec (s := 1) (L := text.length) (by decide))
  rcases hle.2 with z | z
  · omega
  · by_cases c : grF 1 text.length ≤ rows.length
    · exact c
    · have m := Nat.mul_le_mul (show rows.length ≤ grF 1 text.length - 1 by omega) (show rows.length + 3 ≤ grF 1 text.length + 2 by omega)
      have e3 : rows.length * (rows.length + 3) = rows.length * (rows.length + 1) + 2 * rows.length := by
        rw [Nat.mul_add, Nat.mul_add]
        omega
      omega
/-- the bounds at every depth -/
theorem bound_most {s L many most : Nat} (hs : 1 ≤ s) (h1 : most = grF s L) (h2 : many ≤ most) (d : Nat) : most ≤ L / (d + 1) + Sn s d ∧ (d + 1) * many ≤ L + (d + 1) * Sn s d := by
  have h := gr_depth hs (grF_spec (s := s) (L := L) hs) d
  rw [← h1] at h
  refine ⟨h, ?_⟩
  have a := Nat.mul_le_mul_left (d + 1) (Nat.le_trans h2 h)
  rw [Nat.mul_add] at a
  have b := Nat.mul_div_le L (d + 1)
  omega
end My

set_option Elab.async false
set_option linter.all false
set_option maxRecDepth 100000
set_option maxHeartbeats 4000000
namespace My
/-! ### filling room with the shorter ones first -/
def greedy : Nat → Nat → List Nat → Nat
  | _, _, [] => 0
  | w, far, c :: cs => min c (far / w) + greedy (w + 1) (far - min c (far / w) * w) cs
def wt : Nat → List Nat → Nat
  | _, [] => 0
  | w, x :: xs => w * x + wt (w + 1) xs
def Leq : List Nat → List Nat → Prop
  | [], [] => True
  | x :: xs, c :: cs => x ≤ c ∧ Leq xs cs
  | _, _ => False
theorem greedy_opt : ∀ (cs xs : List Nat) (w far e : Nat), 1 ≤ w → Leq xs cs → wt w xs ≤ far + w * e → xs.sum ≤ greedy w far cs + e
  | [], [], w, far, e, _, _, _ => by simp
  | [], x :: xs, _, _, _, _, h, _ => h.elim
  | c :: cs, [], _, _, _, _, h, _ => h.elim
  | c :: cs, x :: xs, w, far, e, hw, h, ht => by
    obtain ⟨h1, h2⟩ := h
    have ht' : w * x + wt (w + 1) xs ≤ far + w * e := ht
    show (x :: xs).sum ≤ min c (far / w) + greedy (w + 1) (far - min c (far / w) * w) cs + e
    rw [List.sum_cons]
    have hd : far / w * w ≤ far := Nat.div_mul_le_self far w
    have hm : min c (far / w) * w ≤ far := Nat.le_trans (Nat.mul_le_mul_right w (Nat.min_le_right _ _)) hd
    by_cases cx : x ≤ min c (far / w)
    · have ih := greedy_opt cs xs (w + 1) (far - min c (far / w) * w) (e + (min c (far / w) - x)) (by omega) h2 (by
        have e1 : min c (far / w) * w = w * x + w * (min c (far / w) - x) := by rw [← Nat.mul_add, Nat.mul_comm]; congr 1; omega
        have e2 : (w + 1) * (e + (min c (far / w) - x)) = w * e + w * (min c (far / w) - x) + (e + (min c (far / w) - x)) := by rw [Nat.add_mul, Nat.one_mul, Nat.mul_add]
        omega)
      omega
    · have hlt : far / w < x := by omega
      have hmin : min c (far / w) = far / w := by omega
      rw [hmin] at hm ⊢
      obtain ⟨g, hg⟩ : ∃ g, x = far / w + g := ⟨x - far / w, by omega⟩
      have hr : far < far / w * w + w := by
        have := Nat.lt_succ_self (far / w)
        have h3 := (Nat.div_lt_iff_lt_mul (by omega : 0 < w)).mp this
        rw [Nat.succ_mul] at h3
        exact h3
      rw [hg, Nat.mul_add, Nat.mul_comm w (far / w)] at ht'
      by_cases ce : g ≤ e
      · have ih := greedy_opt cs xs (w + 1) (far - far / w * w) (e - g) (by omega) h2 (by
          have e1 : w * e = w * g + w * (e - g) := by rw [← Nat.mul_add]; congr 1; omega
          have e2 : (w + 1) * (e - g) = w * (e - g) + (e - g) := by rw [Nat.add_mul, Nat.one_mul]
          omega)
        omega
      · exfalso
        have e1 : w * g = w * e + w * (g - e) := by rw [← Nat.mul_add]; congr 1; omega
        have e2 : w * 1 ≤ w * (g - e) := Nat.mul_le_mul_left w (by omega)
        omega
/-! ### words by their lengths -/
def cntL (k : Nat) (ws : List (List Nat)) : Nat := (ws.filter fun u => decide (u.length = k)).length
theorem wt_range : ∀ (n w : Nat) (f : Nat → Nat), wt w ((List.range n).map f) = ((List.range n).map fun k => (w + k) * f k).sum
  | 0, _, _ => rfl
  | n + 1, w, f => by
    rw [List.range_succ_eq_map, List.map_cons, List.map_map, List.map_cons, List.map_map, List.sum_cons]
    show w * f 0 + wt (w + 1) ((List.range n).map (f ∘ Nat.succ)) = _
    rw [wt_range n (w + 1) (f ∘ Nat.succ)]
    have : ((List.range n).map fun k => (w + 1 + k) * (f ∘ Nat.succ) k) = (List.range n).map ((fun k => (w + k) * f k) ∘ Nat.succ) := by
      apply List.map_congr_left
      intro k _
      show (w + 1 + k) * f (k + 1) = (w + (k + 1)) * f (k + 1)
      congr 1
      omega
    rw [this]
    rfl
theorem sum_add (f g : Nat → Nat) (l : List Nat) : (l.map fun k => f k + g k).sum = (l.map f).sum + (l.map g).sum := by
  induction l with
  | nil => rfl
  | cons a l ih => simp only [List.map_cons, List.sum_cons, ih]; omega
theorem sum_one (v m : Nat) : ∀ n, ((List.range n).map fun k => if m = k + 1 then v else 0).sum = if 1 ≤ m ∧ m ≤ n then v else 0
  | 0 => by rw [if_neg (by omega)]; rfl
  | n + 1 => by
    rw [List.range_succ, List.map_append, List.sum_append, sum_one v m n]
    simp only [List.map_cons, List.map_nil, List.sum_cons, List.sum_nil]
    by_cases a : m = n + 1
    · rw [if_pos a, if_neg (by omega), if_pos (by omega)]
      omega
    · rw [if_neg a]
      by_cases b : 1 ≤ m ∧ m ≤ n
      · rw [if_pos b, if_pos (by omega)]; omega
      · rw [if_neg b, if_neg (by omega)]; omega
theorem cntL_cons (k : Nat) (u : List Nat) (ws : List (List Nat)) : cntL k (u :: ws) = cntL k ws + (if u.length = k then 1 else 0) := by
  unfold cntL
  by_cases c : u.length = k
  · rw [List.filter_cons_of_pos (by simpa using c), if_pos c, List.length_cons]
  · rw [List.filter_cons_of_neg (by simpa using c), if_neg c]; rfl
theorem cnt_sum (n : Nat) : ∀ ws : List (List Nat), (∀ u ∈ ws, 1 ≤ u.length ∧ u.length ≤ n) → ((List.range n).map fun k => cntL (k + 1) ws).sum = ws.length ∧ ((List.range n).map fun k => (1 + k) * cntL (k + 1) ws).sum = (ws.map List.length).sum
  | [], _ => by
    have e1 : ((List.range n).map fun k => cntL (k + 1) []) = (List.range n).map fun _ => 0 := rfl
    have e2 : ((List.range n).map fun k => (1 + k) * cntL (k + 1) []) = (List.range n).map fun _ => 0 := by
      apply List.map_congr_left
      intro k _
      show (1 + k) * 0 = 0
      rw [Nat.mul_zero]
    rw [e1, e2, sum_const, Nat.mul_zero]
    exact ⟨rfl, rfl⟩
  | u :: ws, h => by
    obtain ⟨i1, i2⟩ := cnt_sum n ws fun v hv => h v (List.mem_cons_of_mem _ hv)
    have hu := h u (List.mem_cons_self ..)
    constructor
    · have e : ((List.range n).map fun k => cntL (k + 1) (u :: ws)) = (List.range n).map fun k => cntL (k + 1) ws + (if u.length = k + 1 then 1 else 0) := List.map_congr_left fun k _ => cntL_cons _ _ _
      rw [e, sum_add, i1, sum_one, if_pos hu, List.length_cons]
    · have e : ((List.range n).map fun k => (1 + k) * cntL (k + 1) (u :: ws)) = (List.range n).map fun k => (1 + k) * cntL (k + 1) ws + (if u.length = k + 1 then u.length else 0) := by
        apply List.map_congr_left
        intro k _
        rw [cntL_cons, Nat.mul_add]
        congr 1
        by_cases c : u.length = k + 1
        · rw [if_pos c, if_pos c, c]; omega
        · rw [if_neg c, if_neg c]; omega
      rw [e, sum_add, i2, sum_one, if_pos hu, List.map_cons, List.sum_cons]
      omega
theorem leq_map (f g : Nat → Nat) : ∀ l : List Nat, (∀ k ∈ l, f k ≤ g k) → Leq (l.map f) (l.map g)
  | [], _ => trivial
  | k :: l, h => ⟨h k (List.mem_cons_self ..), leq_map f g l fun j hj => h j (List.mem_cons_of_mem _ hj)⟩
/-- different words out of some are no more than fill the room -/
theorem fill_most {ws all : List (List Nat)} {n far : Nat} (nd : ws.Nodup) (hs : ∀ u ∈ ws, u ∈ all) (hl : ∀ u ∈ ws, 1 ≤ u.length ∧ u.length ≤ n) (hf : (ws.map List.length).sum ≤ far) :
    ws.length ≤ greedy 1 far ((List.range n).map fun k => cntL (k + 1) all) := by
  obtain ⟨h1, h2⟩ := cnt_sum n ws hl
  have h3 := greedy_opt ((List.range n).map fun k => cntL (k + 1) all) ((List.range n).map fun k => cntL (k + 1) ws) 1 far 0 (Nat.le_refl 1) (leq_map _ _ _ fun k _ => by
    refine List.Nodup.length_le_of_subset (List.Pairwise.filter _ nd) ?_
    intro u hu
    obtain ⟨a, b⟩ := List.mem_filter.mp hu
    exact List.mem_filter.mpr ⟨hs u a, b⟩) (by rw [wt_range, h2]; omega)
  rw [h1] at h3
  omega
/-! ### borders -/
def csF : Nat → List (List Nat) → List Nat
  | _, [] => []
  | at_, s :: r => at_ :: csF (at_ + s.length) r
theorem inside_seg : ∀ (ss : List (List Nat)) (at_ a b : Nat), a < b → b ≤ ss.flatten.length → (∀ c ∈ csF at_ ss, ¬ (at_ + a < c ∧ c < at_ + b)) → ∃ s ∈ ss, ∃ i, (ss.flatten.drop a).take (b - a) = (s.drop i).take (b - a) ∧ i + (b - a) ≤ s.length
  | [], _, a, b, h, hb, _ => by
    have : b ≤ 0 := hb
    omega
  | s :: r, at_, a, b, h, hb, hc => by
    rw [List.flatten_cons] at hb ⊢
    by_cases cb : b ≤ s.length
    · refine ⟨s, List.mem_cons_self .., a, ?_, by omega⟩
      rw [List.drop_append_of_le_length (by omega), List.take_append_of_le_length (by rw [List.length_drop]; omega)]
    · rw [List.length_append] at hb
      by_cases ca : s.length ≤ a
      · obtain ⟨t, ht, i, h1, h2⟩ := inside_seg r (at_ + s.length) (a - s.length) (b - s.length) (by omega) (by omega) fun c hcm hx => hc c (List.mem_cons_of_mem _ hcm) (by omega)
        refine ⟨t, List.mem_cons_of_mem _ ht, i, ?_, by omega⟩
        have e1 : b - a = b - s.length - (a - s.length) := by omega
        rw [e1, ← h1]
        congr 1
        rw [List.drop_append, List.drop_eq_nil_of_le ca, List.nil_append]
      · exfalso
        cases r with
        | nil => simp at hb; omega
        | cons t r' => exact hc (at_ + s.length) (List.mem_cons_of_mem _ (List.mem_cons_self ..)) (by omega)
/-- how many of B lie behind lo and ahead of hi -/
def betw (B : List Nat) (lo hi : Int) : Nat := (B.filter fun (b : Nat) => decide (lo < (b : Int) ∧ (b : Int) < hi)).length
theorem betw_split (B : List Nat) {lo a b hi : Int} (h1 : lo ≤ a) (h2 : a ≤ b) (h3 : b ≤ hi) : betw B a b + betw B b hi ≤ betw B lo hi := by
  unfold betw
  induction B with
  | nil => exact Nat.le_refl _
  | cons c B ih =>
    by_cases p1 : a < (c : Int) ∧ (c : Int) < b
    · rw [List.filter_cons_of_pos (by simpa using p1), List.filter_cons_of_neg (by simp; omega), List.filter_cons_of_pos (by simp; omega), List.length_cons, List.length_cons]
      omega
    · rw [List.filter_cons_of_neg (by simp only [decide_eq_true_eq]; exact p1)]
      by_cases p2 : b < (c : Int) ∧ (c : Int) < hi
      · rw [List.filter_cons_of_pos (by simpa using p2), List.filter_cons_of_pos (by simp; omega), List.length_cons, List.length_cons]
        omega
      · rw [List.filter_cons_of_neg (by simp only [decide_eq_true_eq]; exact p2)]
        by_cases p3 : lo < (c : Int) ∧ (c : Int) < hi
        · rw [List.filter_cons_of_pos (by simpa using p3), List.length_cons]
          omega
        · rw [List.filter_cons_of_neg (by simp only [decide_eq_true_eq]; exact p3)]
          exact ih
def crossB (B : List Nat) (p : Int × Int) : Bool := decide (0 < betw B p.1 p.2)
theorem cross_few {n : Int} (B : List Nat) : ∀ {lo : Int} {row : Parts}, lo ≤ n → InOrd n lo row → (row.filter (crossB B)).length ≤ betw B lo n
  | lo, [], _, _ => Nat.zero_le _
  | lo, p :: r, hl, h => by
    obtain ⟨a, b, c, d⟩ := h
    have ih := cross_few B (lo := p.2) (row := r) c d
    have hb := betw_split B a (Int.le_of_lt b) c
    by_cases cp : crossB B p = true
    · rw [List.filter_cons_of_pos cp, List.length_cons]
      have : 0 < betw B p.1 p.2 := of_decide_eq_true cp
      omega
    · rw [List.filter_cons_of_neg cp]
      omega
theorem filter_two {α : Type} (f : α → Bool) (l : List α) : l.length = (l.filter f).length + (l.filter fun x => !f x).length := by
  induction l with
  | nil => rfl
  | cons a l ih =>
    by_cases c : f a = true
    · rw [List.filter_cons_of_pos c, List.filter_cons_of_neg (by simp [c]), List.length_cons, List.length_cons]
      omega
    · rw [List.filter_cons_of_neg c, List.filter_cons_of_pos (by simp [c]), List.length_cons, List.length_cons]
      omega
theorem sum_filter_le {α : Type} (f : α → Bool) (g : α → Nat) (l : List α) : ((l.filter f).map g).sum ≤ (l.map g).sum := by
  induction l with
  | nil => exact Nat.le_refl _
  | cons a l ih =>
    by_cases c : f a = true
    · rw [List.filter_cons_of_pos c, List.map_cons, List.sum_cons, List.map_cons, List.sum_cons]
      omega
    · rw [List.filter_cons_of_neg c, List.map_cons, List.sum_cons]
      omega
/-- a row of different parts has no more than the borders and what fills the room -/
theorem row_spread {l : List Nat} {row : Parts} {ss all : List (List Nat)} {n : Nat} (hj : ss.flatten = l) (hg : goodF l row = true) (hall : ∀ s ∈ ss, ∀ i j, j ≠ 0 → i + j ≤ s.length → (s.drop i).take j ∈ all) (hn : ∀ s ∈ ss, s.length ≤ n) :
    row.length ≤ betw (csF 0 ss) 0 (l.length : Int) + greedy 1 l.length ((List.range n).map fun k => cntL (k + 1) all) := by
  obtain ⟨h1, h2⟩ := good_iff.mp hg
  rw [filter_two (crossB (csF 0 ss)) row]
  have a1 := cross_few (csF 0 ss) (by omega) h1
  have a2 := fill_most (ws := (row.filter fun x => !crossB (csF 0 ss) x).map (seg l)) (all := all) (n := n) (far := l.length) (by
    refine List.pairwise_map.mpr (List.Pairwise.filter _ ?_)
    exact List.pairwise_map.mp h2) ?_ ?_ ?_
  · rw [List.length_map] at a2
    omega
  all_goals try (
    intro u hu
    obtain ⟨p, hp, rfl⟩ := List.mem_map.mp hu
    obtain ⟨hp1, hp2⟩ := List.mem_filter.mp hp
    obtain ⟨b1, b2, _, b3⟩ := ord_mem h1 p hp1
    obtain ⟨a', ha⟩ : ∃ a' : Nat, p.1 = (a' : Int) := ⟨p.1.toNat, by omega⟩
    obtain ⟨b', hb⟩ : ∃ b' : Nat, p.2 = (b' : Int) := ⟨p.2.toNat, by omega⟩
    have hpp : p = ((a' : Int), (b' : Int)) := Prod.ext ha hb
    have hno : betw (csF 0 ss) p.1 p.2 = 0 := by
      have : crossB (csF 0 ss) p = false := by simpa using hp2
      have := of_decide_eq_false this
      omega
    obtain ⟨s, hs, i, e1, e2⟩ := inside_seg ss 0 a' b' (by omega) (by rw [hj]; omega) fun c hc hx => by
      have hm : c ∈ (csF 0 ss).filter fun (b : Nat) => decide (p.1 < (b : Int) ∧ (b : Int) < p.2) := List.mem_filter.mpr ⟨hc, by simp only [decide_eq_true_eq]; omega⟩
      rw [List.length_eq_zero_iff.mp hno] at hm
      cases hm
    rw [hj] at e1
    rw [hpp, seg_nn, e1])
  · exact hall s hs i (b' - a') (by omega) e2
  · have := hn s hs
    rw [List.length_take, List.length_drop]
    omega
  · have h3 := ord_lens (l := l) (Int.le_refl 0) (by omega) h1
    have h4 := sum_filter_le (fun x => !crossB (csF 0 ss) x) (fun p => (seg l p).length) row
    rw [List.map_map] at h3 ⊢
    have e : (row.map (List.length ∘ seg l)) = row.map fun p => (seg l p).length := rfl
    have e' : ((row.filter fun x => !crossB (csF 0 ss) x).map (List.length ∘ seg l)) = (row.filter fun x => !crossB (csF 0 ss) x).map fun p => (seg l p).length := rfl
    rw [e] at h3
    rw [e']
    omega
end My

set_option Elab.async false
set_option linter.all false
set_option maxRecDepth 100000
set_option maxHeartbeats 4000000
namespace My
theorem csF_snoc (s : List Nat) : ∀ (ss : List (List Nat)) (a : Nat), csF a (ss ++ [s]) = csF a ss ++ [a + ss.flatten.length]
  | [], a => rfl
  | t :: ss, a => by
    show a :: csF (a + t.length) (ss ++ [s]) = a :: csF (a + t.length) ss ++ [a + (t ++ ss.flatten).length]
    rw [csF_snoc s ss, List.length_append, List.cons_append, Nat.add_assoc]
theorem csF_bound : ∀ (ss : List (List Nat)) (a : Nat), (∀ s ∈ ss, s ≠ []) → ∀ c ∈ csF a ss, a ≤ c ∧ c < a + ss.flatten.length
  | [], _, _, c, hc => by cases hc
  | t :: ss, a, h, c, hc => by
    have ht : 0 < t.length := List.length_pos_iff.mpr (h t (List.mem_cons_self ..))
    rw [List.flatten_cons, List.length_append]
    rcases List.mem_cons.mp hc with rfl | hc
    · omega
    · have := csF_bound ss (a + t.length) (fun s hs => h s (List.mem_cons_of_mem _ hs)) c hc
      omega
/-- the starts behind the pieces, one more at the end -/
def brF (ps : List (List Nat)) : List Nat := csF 0 (ps.tail ++ [[]])
theorem brF_tail (ps : List (List Nat)) (x : List Nat) : csF 0 (ps.tail ++ [x]) = brF ps := by
  unfold brF
  rw [csF_snoc, csF_snoc]
/-- a row that tells pieces one behind the other -/
def movF : Nat → List (List Nat) → Parts
  | _, [] => []
  | a, s :: r => ((a : Int), (a : Int) + (s.length : Int)) :: movF (a + s.length) r
theorem movF_snoc (s : List Nat) : ∀ (ss : List (List Nat)) (a : Nat), movF a (ss ++ [s]) = movF a ss ++ [(((a + ss.flatten.length : Nat) : Int), ((a + ss.flatten.length : Nat) : Int) + (s.length : Int))]
  | [], a => rfl
  | t :: ss, a => by
    show _ :: movF (a + t.length) (ss ++ [s]) = _ :: movF (a + t.length) ss ++ _
    rw [movF_snoc s ss, List.flatten_cons, List.length_append, Nat.add_assoc]
    rfl
theorem movF_len : ∀ (ss : List (List Nat)) (a : Nat), (movF a ss).length = ss.length
  | [], _ => rfl
  | t :: ss, a => by
    show (movF (a + t.length) ss).length + 1 = ss.length + 1
    rw [movF_len ss]
theorem movF_ord {n : Nat} : ∀ (ss : List (List Nat)) (a : Nat), (∀ s ∈ ss, s ≠ []) → a + ss.flatten.length ≤ n → InOrd (n : Int) (a : Int) (movF a ss)
  | [], _, _, _ => trivial
  | t :: ss, a, h, hn => by
    have ht : 0 < t.length := List.length_pos_iff.mpr (h t (List.mem_cons_self ..))
    rw [List.flatten_cons, List.length_append] at hn
    have ih := movF_ord (n := n) ss (a + t.length) (fun s hs => h s (List.mem_cons_of_mem _ hs)) (by omega)
    exact ⟨Int.le_refl _, by show (a : Int) < (a : Int) + (t.length : Int); omega, by show (a : Int) + (t.length : Int) ≤ (n : Int); omega, ih⟩
theorem movF_segs {l : List Nat} : ∀ (ss : List (List Nat)) (a : Nat) (r : List Nat), l.drop a = ss.flatten ++ r → (movF a ss).map (seg l) = ss
  | [], _, _, _ => rfl
  | t :: ss, a, r, h => by
    rw [List.flatten_cons, List.append_assoc] at h
    show seg l ((a : Int), ((a + t.length : Nat) : Int)) :: (movF (a + t.length) ss).map (seg l) = t :: ss
    rw [seg_nn, Nat.add_sub_cancel_left, h, List.take_left, movF_segs ss (a + t.length) r (by rw [← List.drop_drop, h, List.drop_left])]
theorem ord_low {n lo lo2 : Int} {r : Parts} (h : InOrd n lo r) (hl : lo2 ≤ lo) : InOrd n lo2 r := ord_mono h (Int.le_refl _) hl
/-- the pieces of a window are unlike stretches of the text -/
theorem moved_good {text wdw : List Nat} {a : Nat} {r : List Nat} (h : text.drop a = wdw ++ r) (ha : a ≤ text.length) : goodF text (movF a (piF (cutC wdw).1).tail) = true := by
  obtain ⟨h1, h2⟩ := cut_words (text := wdw) (abc := wdw) fun c hc => hc
  have C := (cutOk wdw).joined
  rw [← C, List.append_assoc] at h
  have hl := congrArg List.length h
  rw [List.length_drop, List.length_append] at hl
  refine good_iff.mpr ⟨ord_low (movF_ord _ a (fun s hs => (h1.2 s hs).1) (by omega)) (by omega), ?_⟩
  rw [movF_segs _ a _ h]
  exact h1.1
/-! ### what was read ahead is the beginning -/
theorem step_pre (s : List (Nat × Nat) × Nat) (c : Nat) : ∃ t, (stepC s c).1 = s.1 ++ t := by
  unfold stepC
  split
  · exact ⟨[], (List.append_nil _).symm⟩
  · exact ⟨_, rfl⟩
theorem fold_pre : ∀ (cs : List Nat) (s : List (Nat × Nat) × Nat), ∃ t, (cs.foldl stepC s).1 = s.1 ++ t
  | [], s => ⟨[], (List.append_nil _).symm⟩
  | c :: cs, s => by
    obtain ⟨t1, h1⟩ := step_pre s c
    obtain ⟨t2, h2⟩ := fold_pre cs (stepC s c)
    exact ⟨t1 ++ t2, by rw [List.foldl_cons, h2, h1, List.append_assoc]⟩
theorem cut_pre (a b : List Nat) : ∃ t, (cutC (a ++ b)).1 = (cutC a).1 ++ t := by
  unfold cutC
  rw [List.foldl_append]
  exact fold_pre b _
theorem cut_take (text : List Nat) (i : Nat) : (cutC (text.take i)).1 = (cutC text).1.take (cutC (text.take i)).1.length := by
  obtain ⟨t, h⟩ := cut_pre (text.take i) (text.drop i)
  rw [List.take_append_drop] at h
  rw [h, List.take_left]
theorem cut_take_le (text : List Nat) (i : Nat) : (cutC (text.take i)).1.length ≤ (cutC text).1.length := by
  obtain ⟨t, h⟩ := cut_pre (text.take i) (text.drop i)
  rw [List.take_append_drop] at h
  rw [h, List.length_append]
  omega
/-! ### the spread -/
/-- the words inside pieces, each once -/
def Facs (ps all : List (List Nat)) : Prop := all.Nodup ∧ ∀ u, u ∈ all ↔ u ≠ [] ∧ ∃ p ∈ ps, ∃ i, i + u.length ≤ p.length ∧ (p.drop i).take u.length = u
theorem cntL_same {A B : List (List Nat)} (ha : A.Nodup) (hb : B.Nodup) (h : ∀ u, u ∈ A ↔ u ∈ B) (k : Nat) : cntL k A = cntL k B := by
  have one : ∀ {A B : List (List Nat)}, A.Nodup → (∀ u, u ∈ A → u ∈ B) → cntL k A ≤ cntL k B := fun ha h => by
    refine List.Nodup.length_le_of_subset (List.Pairwise.filter _ ha) ?_
    intro u hu
    obtain ⟨a, b⟩ := List.mem_filter.mp hu
    exact List.mem_filter.mpr ⟨h u a, b⟩
  exact Nat.le_antisymm (one ha fun u => (h u).mp) (one hb fun u => (h u).mpr)
theorem facs_same {ps A B : List (List Nat)} (ha : Facs ps A) (hb : Facs ps B) (k : Nat) : cntL k A = cntL k B := cntL_same ha.1 hb.1 (fun u => (ha.2 u).trans (hb.2 u).symm) k
/-- no row of unlike stretches has more than the borders and the fill -/
theorem text_spread {text : List Nat} {row : Parts} {all : List (List Nat)} {n : Nat} (hg : goodF text row = true) (hF : Facs (piF (cutC text).1) all) (hn : ∀ p ∈ piF (cutC text).1, p.length ≤ n) :
    row.length ≤ betw (brF (piF (cutC text).1)) 0 (text.length : Int) + greedy 1 text.length ((List.range n).map fun k => cntL (k + 1) all) := by
  have C := cutOk text
  generalize (cutC text).1 = rows at C hF hn ⊢
  generalize (cutC text).2 = at_ at C
  have hp : (piF rows).getD at_ [] ∈ piF rows := by
    have := C.at_le
    rw [List.getD_eq_getElem?_getD, List.getElem?_eq_getElem (by rw [piF_len]; omega)]
    exact List.getElem_mem _
  have hm : ∀ s ∈ (piF rows).tail ++ [(piF rows).getD at_ []], s ∈ piF rows := by
    intro s hs
    rcases List.mem_append.mp hs with h | h
    · exact List.mem_of_mem_tail h
    · rw [List.mem_singleton.mp h]; exact hp
  rw [← brF_tail (piF rows) ((piF rows).getD at_ [])]
  refine row_spread (ss := (piF rows).tail ++ [(piF rows).getD at_ []]) (by rw [List.flatten_append, List.flatten_cons, List.flatten_nil, List.append_nil]; exact C.joined) hg ?_ fun s hs => hn s (hm s hs)
  intro s hs i j hj hij
  have hl : ((s.drop i).take j).length = j := by rw [List.length_take, List.length_drop]; omega
  refine (hF.2 _).mpr ⟨fun z => ?_, s, hm s hs, i, by rw [hl]; exact hij, by rw [hl]⟩
  rw [z] at hl
  exact hj hl.symm
end My

set_option Elab.async false
set_option linter.all false
set_option maxRecDepth 100000
set_option maxHeartbeats 4000000
namespace My
def IsMax (n : Nat) (ps : List (List Nat)) : Prop := (∃ p ∈ ps, p.length = n) ∧ ∀ p ∈ ps, p.length ≤ n
theorem isMax_uniq {n m : Nat} {ps : List (List Nat)} (h : IsMax n ps) (h2 : IsMax m ps) : n = m := by
  obtain ⟨⟨p, hp, rfl⟩, a⟩ := h
  obtain ⟨⟨q, hq, rfl⟩, b⟩ := h2
  exact Nat.le_antisymm (b p hp) (a q hq)
theorem isMax_ex : ∀ {ps : List (List Nat)}, ps ≠ [] → ∃ n, IsMax n ps
  | [], h => absurd rfl h
  | [p], _ => ⟨p.length, ⟨p, List.mem_singleton.mpr rfl, rfl⟩, fun q hq => by rw [List.mem_singleton.mp hq]; exact Nat.le_refl _⟩
  | p :: q :: r, _ => by
    obtain ⟨n, ⟨u, hu, e⟩, h⟩ := isMax_ex (ps := q :: r) (by simp)
    by_cases c : p.length ≤ n
    · exact ⟨n, ⟨u, List.mem_cons_of_mem _ hu, e⟩, fun v hv => (List.mem_cons.mp hv).elim (fun z => z ▸ c) (h v)⟩
    · exact ⟨p.length, ⟨p, List.mem_cons_self .., rfl⟩, fun v hv => (List.mem_cons.mp hv).elim (fun z => z ▸ Nat.le_refl _) fun z => by have := h v z; omega⟩
/-- each beginning of a piece is a piece -/
theorem piF_pre {rows : List (Nat × Nat)} (hp : ∀ (i : Nat) (r : Nat × Nat), rows[i]? = some r → r.1 ≤ i) : ∀ i, i ≤ rows.length → ∀ k, k ≤ ((piF rows).getD i []).length → ((piF rows).getD i []).take k ∈ piF rows := by
  intro i
  induction i using Nat.strongRecOn with
  | ind i ih =>
    intro hi k hk
    have self : (piF rows).getD i [] ∈ piF rows := by
      rw [List.getD_eq_getElem?_getD, List.getElem?_eq_getElem (by rw [piF_len]; omega)]
      exact List.getElem_mem _
    by_cases c : k = ((piF rows).getD i []).length
    · rw [c, List.take_length]; exact self
    · cases i with
      | zero =>
        rw [piF_zero] at hk c
        exact absurd (Nat.le_zero.mp hk) c
      | succ i =>
        obtain ⟨r, hr⟩ : ∃ r, rows[i]? = some r := ⟨_, List.getElem?_eq_getElem (by omega)⟩
        have h1 := hp i r hr
        have e := piF_row hp hr
        rw [e] at hk c ⊢
        rw [List.length_append] at hk c
        have hk2 : k ≤ ((piF rows).getD r.1 []).length := by
          have : ([r.2] : List Nat).length = 1 := rfl
          omega
        rw [List.take_append_of_le_length hk2]
        exact ih r.1 (by omega) (by omega) k hk2
theorem pre_mem {rows : List (Nat × Nat)} (hp : ∀ (i : Nat) (r : Nat × Nat), rows[i]? = some r → r.1 ≤ i) {p : List Nat} (h : p ∈ piF rows) {k : Nat} (hk : k ≤ p.length) : p.take k ∈ piF rows := by
  obtain ⟨i, hi, e⟩ := List.getElem_of_mem h
  have hi2 := hi
  rw [piF_len] at hi2
  have e2 : (piF rows).getD i [] = p := by
    rw [List.getD_eq_getElem?_getD, List.getElem?_eq_getElem hi]
    exact e
  have := piF_pre hp i (by omega) k (by rw [e2]; exact hk)
  rwa [e2] at this
/-- the ends of all pieces are all words inside them -/
theorem facs_ends {rows : List (Nat × Nat)} (hp : ∀ (i : Nat) (r : Nat × Nat), rows[i]? = some r → r.1 ≤ i) {ws : List (List Nat)} (nd : ws.Nodup) (h : ∀ u, u ∈ ws ↔ ∃ p ∈ piF rows, ∃ s, s < p.length ∧ u = p.drop s) : Facs (piF rows) ws := by
  refine ⟨nd, fun u => (h u).trans ⟨?_, ?_⟩⟩
  · rintro ⟨p, hm, s, hs, rfl⟩
    refine ⟨fun z => ?_, p, hm, s, ?_, ?_⟩
    · have := congrArg List.length z
      rw [List.length_drop] at this
      simp at this
      omega
    · rw [List.length_drop]; omega
    · rw [List.take_length]
  · rintro ⟨hne, p, hm, i, hi, e⟩
    have hl : 0 < u.length := List.length_pos_iff.mpr hne
    refine ⟨p.take (i + u.length), pre_mem hp hm (by omega), i, by rw [List.length_take]; omega, ?_⟩
    rw [List.drop_take, Nat.add_sub_cancel_left]
    exact e.symm
theorem facs_len {ps ws : List (List Nat)} {n : Nat} (h : Facs ps ws) (hm : IsMax n ps) : ∀ u ∈ ws, 1 ≤ u.length ∧ u.length ≤ n := fun u hu => by
  obtain ⟨hne, p, hp, i, hi, _⟩ := (h.2 u).mp hu
  have := hm.2 p hp
  have h2 : 0 < u.length := List.length_pos_iff.mpr hne
  omega
/-! ### counts by length -/
def cntsF (n : Nat) (ws : List (List Nat)) : List Nat := (List.range n).map fun k => cntL (k + 1) ws
theorem cntsF_len (n : Nat) (ws : List (List Nat)) : (cntsF n ws).length = n := by
  unfold cntsF
  rw [List.length_map, List.length_range]
theorem cntL_snoc (k : Nat) (u : List Nat) (ws : List (List Nat)) : cntL k (ws ++ [u]) = cntL k ws + (if u.length = k then 1 else 0) := by
  unfold cntL
  rw [List.filter_append, List.length_append]
  by_cases c : u.length = k
  · rw [List.filter_cons_of_pos (by simpa using c), if_pos c]; rfl
  · rw [List.filter_cons_of_neg (by simpa using c), if_neg c]; rfl
theorem cntsF_step {n : Nat} {ws : List (List Nat)} {u : List Nat} (h1 : 1 ≤ u.length) (hn : u.length ≤ n) : (cntsF n ws).set (u.length - 1) ((cntsF n ws).getD (u.length - 1) 0 + 1) = cntsF n (ws ++ [u]) := by
  apply List.ext_getElem?
  intro k
  have hl := cntsF_len n ws
  rw [List.getElem?_set]
  by_cases c : k < n
  · have e1 : (cntsF n ws)[k]? = some (cntL (k + 1) ws) := by
      unfold cntsF
      rw [List.getElem?_map, List.getElem?_range c]
      rfl
    have e2 : (cntsF n (ws ++ [u]))[k]? = some (cntL (k + 1) (ws ++ [u])) := by
      unfold cntsF
      rw [List.getElem?_map, List.getElem?_range c]
      rfl
    rw [e2, cntL_snoc]
    by_cases d : u.length - 1 = k
    · rw [if_pos d, if_pos (by omega), if_pos (by omega), d, List.getD_eq_getElem?_getD, e1]
      rfl
    · rw [if_neg d, if_neg (by omega), e1]
      rfl
  · rw [if_neg (by omega), List.getElem?_eq_none (by omega), List.getElem?_eq_none (by rw [cntsF_len]; omega)]
theorem cntsF_zero (n : Nat) : cntsF n [] = List.replicate n 0 := by
  apply List.ext_getElem?
  intro k
  unfold cntsF
  rw [List.getElem?_map, List.getElem?_replicate]
  by_cases c : k < n
  · rw [List.getElem?_range c, if_pos c]; rfl
  · rw [List.getElem?_eq_none (by simp; omega), if_neg c]; rfl
end My

set_option Elab.async false
set_option linter.all false
set_option maxRecDepth 100000
set_option maxHeartbeats 4000000
namespace My
open PySem PySem.Spec PyProof.Rows L2 Evl
open SX (S S_len S_cat S_beq S_beq_eq S_inj S_tl)
/-! ### xs[i] += y -/
def rGetL (K : PySem.W.Frag) : V → V → Hp → VK → Prop := fun o i H Q => ∃ p xs k x, o = .ref p ∧ i = .int ((k : Nat) : Int) ∧ SqL K H p xs ∧ xs[k]? = some x ∧ Q x H
theorem pget_list {X : Cx} : PGet X (rGetL X.K) := by
  intro pins s σ H o i ov iv Q I ro ri h
  obtain ⟨p, xs, k, x, rfl, rfl, hq, he, q⟩ := h
  cases ro
  obtain ⟨t, rfl⟩ := ri
  obtain ⟨its, r, pl, hz⟩ := I.list hq
  obtain ⟨w, ew, rw'⟩ := r.get he
  have hn := line63
  have hl := r.length
  have hk := (List.getElem?_eq_some_iff.mp he).1
  exact wpAny_getItem_list pl.isList (by omega) (by omega) (by simpa using ew) ⟨x, H, I, rw', q⟩
section
variable {K : PySem.W.Frag} {σ : L2.St} {H : Hp} {ta tb te tl : TE} {x y v : V} {D : Ends} {tu tz : TS}
theorem s_augSL {to ti : TE} {p : Addr} {ns : List Nat} {k : Nat} {m : Nat} (ho : Ev to σ H (.ref p)) (hi : Ev ti σ H (.int ((k : Nat) : Int))) (he : Ev te σ H (.int (m : Int))) (hp : H p = some (.lst (nV ns))) (hk : k < ns.length)
    (q : ∀ H1, Ex H H1 → D.nx σ (upd H1 p (.lst (nV (ns.set k (ns.getD k 0 + m)))))) : tAugS to ti te (rGetL K) (ipI fun i j => i + j) rSetL D σ H :=
  ho H (Ex.refl H) _ fun H1 e1 => hi H1 e1 _ fun H2 e2 => ⟨p, nV ns, k, .int (ns.getD k 0 : Nat), rfl, rfl, sq_of (e2 _ _ (e1 _ _ hp)), by
    rw [List.getElem?_map, List.getElem?_eq_getElem hk, List.getD_eq_getElem?_getD, List.getElem?_eq_getElem hk]; rfl, he H2 (e1.trans e2) _ fun H3 e3 => ⟨_, _, rfl, rfl, p, nV ns, k, k, rfl, rfl, e3 _ _ (e2 _ _ (e1 _ _ hp)), by
    unfold ixN
    rw [nV_len, if_pos (by omega), if_pos (by omega)]
    simp, by
    have e : (nV ns).set k (.int ((ns.getD k 0 : Nat) + (m : Int))) = nV (ns.set k (ns.getD k 0 + m)) := by
      show (ns.map fun (n : Nat) => V.int (n : Int)).set k (V.int ((ns.getD k 0 + m : Nat) : Int)) = _
      rw [← List.map_set]
    rw [e]
    exact q H3 ((e1.trans e2).trans e3)⟩⟩
/-- for k in d -/
theorem s_forKeys {i j : Nat} {d : Addr} {kvs : List (Key × V)} (hv : σ[i]? = some (some (.ref d))) (hd : H d = some (.dK kvs)) (Pv : Obj → Nat → L2.St → Hp → Prop) (h0 : ∀ od, Pv od 0 σ (upd H d (.frz od (.dK kvs))))
    (hl : ∀ od n σ' H', Pv od n σ' H' → H' d = some (.frz od (.dK kvs)))
    (hs : ∀ od n k z σ' H', kvs[n]? = some (k, z) → Pv od n σ' H' → ∀ D' : Ends, (∀ σ2 H2, Pv od (n + 1) σ2 H2 → D'.nx σ2 H2) → tu D' (σ'.set j (some (kV k))) H')
    (hd2 : ∀ od σ' H', Pv od kvs.length σ' H' → D.nx σ' (upd H' d (.dK kvs))) : tLock (tFor (iKeys (tVar i)) (gName j) tu) D σ H :=
  ⟨d, .dK kvs, hd, trivial, fun od => ⟨.ref d, hv, d, od, rfl, Or.inl ⟨kvs, upd_same, fun n m σ' H' => m = kvs.length - n ∧ n ≤ kvs.length ∧ Pv od n σ' H', ⟨kvs.length, by simp, Nat.zero_le _, h0 od⟩, by
    rintro n m σ' H' ⟨rfl, hn, p⟩
    by_cases hlt : n < kvs.length
    · refine .inr ⟨⟨hl _ _ _ _ p, hlt⟩, Pv od (n + 1), fun σ2 H2 p2 => ⟨kvs.length - (n + 1), by omega, rfl, hlt, p2⟩, fun y H2 hy => ?_⟩
      obtain ⟨rfl, k, z, hk, rfl⟩ := hy
      exact hs od n k z σ' H2 hk p _ fun σ2 H3 p3 => p3
    · have e1 : n = kvs.length := by omega
      subst e1
      exact .inl ⟨⟨hl _ _ _ _ p, Nat.le_refl _⟩, hl _ _ _ _ p, hd2 od σ' H' p⟩⟩⟩⟩
theorem el_lcT {a : Addr} {xs : List V} {t : L2.TT} {j : Nat} {vs : List Nat} (f : Nat → Bool) (v : Nat → V) (h : Ev tl σ H (.ref a)) (hx : SqT K H a xs) (hz : xs.length ≤ 40000) (hw : ∀ x, wipe ((wipe σ vs).set j (some x)) vs = wipe σ vs)
    (ht : ∀ (i : Nat) (x : V) H1, Ex H H1 → xs[i]? = some x → EvT t ((wipe σ vs).set j (some x)) H1 (f i)) (he : ∀ (i : Nat) (x : V) H1, Ex H H1 → xs[i]? = some x → f i = true → Ev te ((wipe σ vs).set j (some x)) H1 (v i)) :
    EvL (tLc (iTup K tl) (gName j) t te vs) σ H (given xs.length f v) := fun H0 e Q q => h H0 e _ fun H1 e1 => ⟨a, rfl, ⟨xs, ex_t (e.trans e1) hx⟩, fun Dl hD =>
  lc_tup (xs := xs) (Cw H1 f v Dl) ⟨hD, Ex.new hD, upd_same⟩ (fun i H' _ p => ex_t ((e.trans e1).trans p.2.1) hx) (fun i x H' hi p => ⟨hw x, cw_turn p (by have := (List.getElem?_eq_some_iff.mp hi).1; omega) (ht i x H1 (e.trans e1) hi) (fun hf => he i x H1 (e.trans e1) hi hf)⟩)
    (fun H' p => q Dl H' (fresh_back e1 p.1) (e1.trans p.2.1) p.2.2)⟩
end
/-! ### a dict of words -/
def tKV (ws : List (List Nat)) : List (Key × V) := ws.map fun w => (Sum.inr (S w), .bl true)
theorem tKV_at (w : List Nat) : ∀ ws : List (List Nat), valV (tKV ws) (Sum.inr (S w) : Key) = if w ∈ ws then some (.bl true) else none
  | [] => rfl
  | u :: ws => by
    show valV ((Sum.inr (S u), V.bl true) :: tKV ws) _ = _
    by_cases c : u = w
    · subst c
      rw [valV_pos rfl, if_pos (List.mem_cons_self ..)]
    · rw [valV_neg (fun z => c (S_inj (Sum.inr.inj z))), tKV_at w ws]
      by_cases m : w ∈ ws
      · rw [if_pos m, if_pos (List.mem_cons_of_mem _ m)]
      · rw [if_neg m, if_neg (fun z => (List.mem_cons.mp z).elim (fun e => c e.symm) m)]
def insW (ws : List (List Nat)) (w : List Nat) : List (List Nat) := if w ∈ ws then ws else ws ++ [w]
theorem insW_mem {ws : List (List Nat)} {w u : List Nat} : u ∈ insW ws w ↔ u ∈ ws ∨ u = w := by
  unfold insW
  by_cases m : w ∈ ws
  · rw [if_pos m]
    exact ⟨Or.inl, fun h => h.elim id fun e => e ▸ m⟩
  · rw [if_neg m, List.mem_append, List.mem_singleton]
theorem insW_nodup {ws : List (List Nat)} {w : List Nat} (h : ws.Nodup) : (insW ws w).Nodup := by
  unfold insW
  by_cases m : w ∈ ws
  · rw [if_pos m]; exact h
  · rw [if_neg m]; exact nodup_snoc h m
theorem insW_len (ws : List (List Nat)) (w : List Nat) : (insW ws w).length ≤ ws.length + 1 := by
  unfold insW
  split
  · omega
  · rw [List.length_append]; exact Nat.le_refl _
theorem putK_tKV (w : List Nat) : ∀ ws : List (List Nat), putK (tKV ws) (Sum.inr (S w) : Key) (.bl true) = tKV (insW ws w) := by
  intro ws
  by_cases m : w ∈ ws
  · have e : insW ws w = ws := if_pos m
    rw [e]
    unfold putK
    have ha : ((tKV ws).any fun kv => decide (kv.1 = (Sum.inr (S w) : Key))) = true := List.any_eq_true.mpr ⟨(Sum.inr (S w), .bl true), List.mem_map.mpr ⟨w, m, rfl⟩, decide_eq_true rfl⟩
    rw [if_pos ha]
    refine (List.map_congr_left fun kv hkv => ?_).trans (List.map_id _)
    obtain ⟨u, _, rfl⟩ := List.mem_map.mp hkv
    show (if (Sum.inr (S u) : Key) = Sum.inr (S w) then ((Sum.inr (S u) : Key), V.bl true) else (Sum.inr (S u), V.bl true)) = (Sum.inr (S u), V.bl true)
    split <;> rfl
  · have e : insW ws w = ws ++ [w] := if_neg m
    have hv : valV (tKV ws) (Sum.inr (S w) : Key) = none := by rw [tKV_at, if_neg m]
    rw [e, putK_new _ hv]
    simp [tKV]
end My

set_option Elab.async false
set_option linter.all false
set_option maxRecDepth 100000
set_option maxHeartbeats 4000000
namespace My
open PySem PySem.Spec PyProof.Rows L2 Evl
open SX (S S_len S_cat S_beq S_beq_eq S_inj S_tl)
theorem min_cast (c f w : Nat) : (if ((f : Int) / ((w : Nat) : Int)) < (c : Int) then ((f : Int) / ((w : Nat) : Int)) else (c : Int)) = ((min c (f / w) : Nat) : Int) := by
  rw [← Int.natCast_ediv]
  by_cases h : f / w < c
  · rw [if_pos (by omega)]; omega
  · rw [if_neg (by omega)]; omega
theorem greedy_step {far : Nat} {cs : List Nat} {i T R : Nat} (h : greedy 1 far cs = T + greedy (i + 1) R (cs.drop i)) (hi : i < cs.length) : greedy 1 far cs = (T + min (cs.getD i 0) (R / (i + 1))) + greedy (i + 2) (R - min (cs.getD i 0) (R / (i + 1)) * (i + 1)) (cs.drop (i + 1)) := by
  have e : cs.drop i = cs.getD i 0 :: cs.drop (i + 1) := by
    rw [List.drop_eq_getElem_cons hi, List.getD_eq_getElem?_getD, List.getElem?_eq_getElem hi]
    rfl
  rw [h, e]
  show T + (min (cs.getD i 0) (R / (i + 1)) + greedy (i + 1 + 1) (R - min (cs.getD i 0) (R / (i + 1)) * (i + 1)) (cs.drop (i + 1))) = _
  exact (Nat.add_assoc _ _ _).symm
theorem take_room (c R w : Nat) : min c (R / w) * w ≤ R := Nat.le_trans (Nat.mul_le_mul_right w (Nat.min_le_right _ _)) (Nat.div_mul_le_self R w)
theorem rest_cast (R c w : Nat) : (R : Int) - ((min c (R / w) : Nat) : Int) * ((w : Nat) : Int) = ((R - min c (R / w) * w : Nat) : Int) := by
  have := take_room c R w
  rw [← Int.natCast_mul]
  omega
section
variable {P : Program} {w : World} {K : PySem.W.Frag} {mg : Str → Option Value} {base : Heap}
variable {CG CC : Addr}
abbrev s_fill : Stmt := top 4
abbrev N_fill : List Str := ["length", "counts", "total", "rest", "index", "count", "taken"]
theorem sc_fill : FnScope N_fill ["length", "counts"] (defScope s_fill) := ⟨rfl, rfl, rfl, by decide +kernel, rfl, by decide +kernel, by decide +kernel⟩
def spFi (K : PySem.W.Frag) : Sp := fun vs H Q _ => ∃ (far : Nat) (p : Addr) (cs : List Nat), vs = [.int (far : Int), .ref p] ∧ SqT K H p (nV cs) ∧ cs.length ≤ 5000 ∧ RetV (.int (greedy 1 far cs : Nat)) H Q
theorem ok_fill (T : TC K mg CG CC) (F : At K mg "fill" s_fill) : Dn P w K mg base 1 "fill" s_fill ["length", "counts"] (spFi K) := by
  refine dn_ok F sc_fill (fun _ _ _ _ _ _ us hl => match us, hl with | [_, _], _ => rfl) (fun vs H Q E h => ?_) (fun f cdv A outer t H vs Q E hr h => ?_)
  · obtain ⟨far, p, cs, rfl, _⟩ := h; rfl
  · obtain ⟨far, p, cs, rfl, hS, hl, q⟩ := h
    refine ⟨_, (pss_cons (ps_set (i := 2) sc_fill.nd rfl (Or.inl rfl) pe_int)
      (pss_cons (ps_set (i := 3) sc_fill.nd rfl (Or.inl rfl) (pv 0))
      (pss_cons (ps_for PassesOwn.never rfl (pi_enumT (by rfl) T.enumerate (pa_cons (pv 1) pa_nil)) (pg_tup rfl (pgs_cons (pg_name (i := 4) sc_fill.nd rfl (Or.inl rfl)) (pgs_cons (pg_name (i := 5) sc_fill.nd rfl (Or.inl rfl)) pgs_nil)))
        (pss_cons (ps_set (i := 6) sc_fill.nd rfl (Or.inl rfl) (pe_callB (call_min2 rfl) (by rfl) T.min (by decide +kernel) (pa_cons (pv 5) (pa_cons (pe_op op_fdiv (pv 3) (pe_op op_add (pv 4) pe_int)) pa_nil))))
          (pss_cons (ps_aug (i := 2) sc_fill.nd rfl (Or.inl rfl) (pv 6) (pip_of iop_add))
          (pss_one (ps_aug (i := 3) sc_fill.nd rfl (Or.inl rfl) (pe_op op_mul (pv 6) (pe_op op_add (pv 4) pe_int)) (pip_of iop_sub))))))
      (pss_one (ps_ret (pv 2)))))), ?_⟩
    refine q_asg (v := .int ((0 : Nat) : Int)) (ev_is ev_c rfl) fun H1 e1 => ?_
    refine q_asg (ev_var rfl) fun H2 e2 => ?_
    refine s_forET (D := { ({ nx := fun _ H' => Q .non H', rt := Q } : Ends) with nx := _ }) (ev_var rfl) (ex_t (e1.trans e2) hS) (fun i σ' H' => ∃ (to re : Nat) (x y z : Option V), σ' = [some (.int (far : Int)), some (.ref p), some (.int (to : Int)), some (.int (re : Int)), x, y, z] ∧ Ex H H' ∧ greedy 1 far cs = to + greedy (i + 1) re (cs.drop i))
      (fun H3 e3 => ⟨0, far, none, none, none, rfl, (e1.trans e2).trans e3, by rw [Nat.zero_add]; rfl⟩) (fun i σ' H' ⟨_, _, _, _, _, _, e, _⟩ => ex_t e hS) ?_ ?_
    · rintro i x σ' H' hx ⟨to, re, x1, y1, z1, rfl, e, hg⟩ T' H3 e3 hT
      have hi : i < cs.length := by have := (List.getElem?_eq_some_iff.mp hx).1; rwa [List.length_map] at this
      have hxe : x = .int (cs.getD i 0 : Nat) := by
        rw [List.getElem?_map, List.getElem?_eq_getElem hi] at hx
        rw [List.getD_eq_getElem?_getD, List.getElem?_eq_getElem hi]
        exact (Option.some.inj hx).symm
      subst hxe
      have hg2 := greedy_step hg hi
      refine g_two hT ?_
      show tSeq _ _ _ [some (V.int (far : Int)), some (V.ref p), some (V.int (to : Int)), some (V.int (re : Int)), some (V.int (i : Int)), some (V.int (cs.getD i 0 : Nat)), z1] H3
      have e13 := e.trans e3
      refine q_asg (v := .int ((min (cs.getD i 0) (re / (i + 1)) : Nat) : Int)) (ev_is (ev_min2 (ev_var rfl) (ev_op (ev_var rfl) (ev_op (ev_var rfl) ev_c rv_I0) (rv_I ⟨by omega, by omega⟩))) (congrArg V.int (min_cast _ _ (i + 1)))) fun H4 e4 => ?_
      generalize hm : min (cs.getD i 0) (re / (i + 1)) = m at hg2 ⊢
      refine q_augR rfl (ev_var rfl) rv_I0 fun H5 e5 => ?_
      refine s_augR rfl (ev_op (ev_var rfl) (ev_op (ev_var rfl) ev_c rv_I0) (rv_I (Or.inr (by omega)))) rv_I0 fun H6 e6 => ?_
      have er := rest_cast re (cs.getD i 0) (i + 1)
      rw [hm] at er
      refine ⟨to + m, re - m * (i + 1), some (.int (i : Int)), some (.int (cs.getD i 0 : Nat)), some (.int (m : Int)), ?_, ((e13.trans e4).trans e5).trans e6, hg2⟩
      rw [← er]
      rfl
    · rintro σ' H' ⟨to, re, x1, y1, z1, rfl, e, hg⟩
      have hlen : (nV cs).length = cs.length := List.length_map _
      rw [hlen, List.drop_length] at hg
      have hg' : greedy 1 far cs = to := hg
      rw [hg'] at q
      exact s_ret (ev_var rfl) fun H3 e3 => q H3 (e.trans e3)
abbrev s_law_most_words : Stmt := top 42
abbrev N_law_most_words : List Str := ["far", "parts", "many", "left", "k", "here"]
theorem sc_law_most_words : FnScope N_law_most_words ["far", "parts"] (defScope s_law_most_words) := ⟨rfl, rfl, rfl, by decide +kernel, rfl, by decide +kernel, by decide +kernel⟩
def spMW (K : PySem.W.Frag) : Sp := fun vs H Q _ => ∃ (far : Nat) (p : Addr) (cs : List Nat), vs = [.int (far : Int), .ref p] ∧ SqL K H p (nV cs) ∧ cs.length ≤ 5000 ∧ RetV (.int (greedy 1 far cs : Nat)) H Q
theorem ok_law_most_words (T : TT mg) (F : At K mg "_law_most_words" s_law_most_words) : Dn P w K mg base 1 "_law_most_words" s_law_most_words ["far", "parts"] (spMW K) := by
  refine dn_ok F sc_law_most_words (fun _ _ _ _ _ _ us hl => match us, hl with | [_, _], _ => rfl) (fun vs H Q E h => ?_) (fun f cdv A outer t H vs Q E hr h => ?_)
  · obtain ⟨far, p, cs, rfl, _⟩ := h; rfl
  · obtain ⟨far, p, cs, rfl, hS, hl, q⟩ := h
    refine ⟨_, (pss_cons (ps_set (i := 2) sc_law_most_words.nd rfl (Or.inl rfl) pe_int)
      (pss_cons (ps_set (i := 3) sc_law_most_words.nd rfl (Or.inl rfl) (pv 0))
      (pss_cons (ps_for PassesOwn.never rfl (pi_range1 (by rfl) T.range (pa_cons (pe_callB call_len_seq (by rfl) T.len boot_len (pa_cons (pv 1) pa_nil)) pa_nil)) (pg_name (i := 4) sc_law_most_words.nd rfl (Or.inl rfl))
        (pss_cons (ps_set (i := 5) sc_law_most_words.nd rfl (Or.inl rfl) (pe_callB (call_min2 rfl) (by rfl) T.min (by decide +kernel) (pa_cons (pe_ix ix_list (pv 1) (pv 4) (fun _ _ => rfl)) (pa_cons (pe_op op_fdiv (pv 3) (pe_op op_add (pv 4) pe_int)) pa_nil))))
          (pss_cons (ps_set (i := 2) sc_law_most_words.nd rfl (Or.inl rfl) (pe_op op_add (pv 2) (pv 5)))
          (pss_one (ps_set (i := 3) sc_law_most_words.nd rfl (Or.inl rfl) (pe_op op_sub (pv 3) (pe_op op_mul (pv 5) (pe_op op_add (pv 4) pe_int))))))))
      (pss_one (ps_ret (pv 2)))))), ?_⟩
    refine q_asg (v := .int ((0 : Nat) : Int)) (ev_is ev_c rfl) fun H1 e1 => ?_
    refine q_asg (ev_var rfl) fun H2 e2 => ?_
    have hlen : (nV cs).length = cs.length := List.length_map _
    refine q_forR1 (ea_cons (ev_len (K := K) (ev_var rfl) (ex_l (e1.trans e2) hS)) ea_nil) ⟨by omega, by omega⟩ (fun i σ' H' => ∃ (to re : Nat) (x y : Option V), σ' = [some (.int (far : Int)), some (.ref p), some (.int (to : Int)), some (.int (re : Int)), x, y] ∧ Ex H H' ∧ greedy 1 far cs = to + greedy (i + 1) re (cs.drop i))
      (fun H3 e3 => ⟨0, far, none, none, rfl, (e1.trans e2).trans e3, by rw [Nat.zero_add]; rfl⟩) ?_ ?_
    · rintro i σ' H' hi0 ⟨to, re, x1, y1, rfl, e, hg⟩
      have hi : i < cs.length := by omega
      have hg2 := greedy_step hg hi
      refine q_asg (v := .int ((min (cs.getD i 0) (re / (i + 1)) : Nat) : Int)) (ev_is (ev_min2 (ev_op (ev_var rfl) (ev_var rfl) (rv_ixL (K := K) (ex_l e hS) (at_nV hi))) (ev_op (ev_var rfl) (ev_op (ev_var rfl) ev_c rv_I0) (rv_I ⟨by omega, by omega⟩))) (congrArg V.int (min_cast _ _ (i + 1)))) fun H4 e4 => ?_
      generalize hm : min (cs.getD i 0) (re / (i + 1)) = m at hg2 ⊢
      refine q_asg (ev_op (ev_var rfl) (ev_var rfl) rv_I0) fun H5 e5 => ?_
      refine s_asg (ev_op (ev_var rfl) (ev_op (ev_var rfl) (ev_op (ev_var rfl) ev_c rv_I0) (rv_I (Or.inr (by omega)))) rv_I0) fun H6 e6 => ?_
      have er := rest_cast re (cs.getD i 0) (i + 1)
      rw [hm] at er
      refine ⟨to + m, re - m * (i + 1), some (.int (i : Int)), some (.int (m : Int)), ?_, ((e.trans e4).trans e5).trans e6, hg2⟩
      rw [← er]
      rfl
    · rintro σ' H' ⟨to, re, x1, y1, rfl, e, hg⟩
      have h9 : (((nV cs).length : Nat) : Int).toNat = cs.length := by omega
      rw [h9, List.drop_length] at hg
      have hg' : greedy 1 far cs = to := hg
      rw [hg'] at q
      exact s_ret (ev_var rfl) fun H3 e3 => q H3 (e.trans e3)
end
end My

set_option Elab.async false
set_option linter.all false
set_option maxRecDepth 100000
set_option maxHeartbeats 4000000
namespace My
open PySem PySem.Spec PyProof.Rows L2 Evl
open SX (S S_len S_cat S_beq S_beq_eq S_inj S_tl)
def RetR (G : Parts → Prop) (H : Hp) (Q : VK) : Prop := ∀ (p : Addr) (row : Parts) (H2 : Hp), Ex H H2 → RowT H2 p row → G row → Q (.ref p) H2
theorem cut_tail {ps : List (List Nat)} : cutV (sV ps) (some 1) none = sV ps.tail := by
  have e : sV ps = ps.map (fun l => V.str (S l)) := rfl
  rw [e, cutV_L, cutL_map, cutL_from (by decide)]
  cases ps with
  | nil => rfl
  | cons a b => rfl
theorem set_sum : ∀ (l : List Nat) (i : Nat), i < l.length → l.getD i 0 = 0 → (l.set i 1).sum = l.sum + 1
  | [], i, h, _ => absurd h (Nat.not_lt_zero i)
  | a :: l, 0, _, h => by
    have : a = 0 := h
    subst this
    rw [List.set_cons_zero, List.sum_cons, List.sum_cons]
    omega
  | a :: l, i + 1, h, h0 => by
    have ih := set_sum l i (by simpa using h) h0
    rw [List.set_cons_succ, List.sum_cons, List.sum_cons, ih]
    omega
theorem nV_set1 (l : List Nat) (i : Nat) : (nV l).set i (.int 1) = nV (l.set i 1) := by
  show (l.map fun (n : Nat) => V.int (n : Int)).set i (V.int ((1 : Nat) : Int)) = (l.set i 1).map fun (n : Nat) => V.int (n : Int)
  rw [List.map_set]
theorem take_flat {ss : List (List Nat)} {i : Nat} (hi : i < ss.length) : (ss.take (i + 1)).flatten.length = (ss.take i).flatten.length + ss[i].length := by
  rw [List.take_succ_eq_append_getElem hi, List.flatten_append, List.length_append, List.flatten_cons, List.flatten_nil, List.append_nil]
theorem take_flat_le (ss : List (List Nat)) (i : Nat) : (ss.take i).flatten.length ≤ ss.flatten.length := by
  conv => rhs; rw [← List.take_append_drop i ss]
  rw [List.flatten_append, List.length_append]
  omega
/-- flags told so far -/
structure FlagsAt (fl : List Nat) (ss : List (List Nat)) (far : Nat) : Prop where
  len : fl.length = far + 1
  zero : ∀ b, ss.flatten.length ≤ b → fl.getD b 0 = 0
  sum : fl.sum = ((csF 0 ss).filter fun b => decide (0 < b)).length
  one : ∀ b, fl.getD b 0 = if b ∈ csF 0 ss ∧ 0 < b then 1 else 0
theorem getD_set (l : List Nat) (i b : Nat) (h : i < l.length) : (l.set i 1).getD b 0 = if b = i then 1 else l.getD b 0 := by
  rw [List.getD_eq_getElem?_getD, List.getD_eq_getElem?_getD, List.getElem?_set]
  by_cases c : i = b
  · subst c; rw [if_pos rfl, if_pos h, if_pos rfl]; rfl
  · rw [if_neg c, if_neg (fun z => c z.symm)]
theorem flags_0 (far : Nat) : FlagsAt (List.replicate (far + 1) 0) [] far where
  len := List.length_replicate
  zero := fun b _ => by
    rw [List.getD_eq_getElem?_getD, List.getElem?_replicate]
    split <;> rfl
  sum := by rw [List.sum_replicate_nat]; rfl
  one := fun b => by
    have hn : ¬ (b ∈ csF 0 [] ∧ 0 < b) := fun z => absurd z.1 List.not_mem_nil
    rw [if_neg hn, List.getD_eq_getElem?_getD, List.getElem?_replicate]
    split <;> rfl
theorem flags_step {fl : List Nat} {ss : List (List Nat)} {s : List Nat} {far : Nat} (F : FlagsAt fl ss far) (hs : s ≠ []) (hle : ss.flatten.length ≤ far) : FlagsAt (if 0 < ss.flatten.length then fl.set ss.flatten.length 1 else fl) (ss ++ [s]) far := by
  have hs0 : 0 < s.length := List.length_pos_iff.mpr hs
  have hfl : (ss ++ [s]).flatten.length = ss.flatten.length + s.length := by rw [List.flatten_append, List.length_append, List.flatten_cons, List.flatten_nil, List.append_nil]
  have hcs := csF_snoc s ss 0
  rw [Nat.zero_add] at hcs
  by_cases c : 0 < ss.flatten.length
  · rw [if_pos c]
    have hlt : ss.flatten.length < fl.length := by rw [F.len]; omega
    refine ⟨by rw [List.length_set]; exact F.len, fun b hb => ?_, ?_, fun b => ?_⟩
    · rw [getD_set _ _ _ hlt, if_neg (by omega)]
      exact F.zero b (by omega)
    · rw [set_sum _ _ hlt (F.zero _ (Nat.le_refl _)), F.sum, hcs, List.filter_append, List.length_append, List.filter_cons_of_pos (by simpa using c)]
      rfl
    · rw [getD_set _ _ _ hlt, hcs]
      by_cases e : b = ss.flatten.length
      · rw [if_pos e, if_pos ⟨by rw [e]; exact List.mem_append_right _ (List.mem_singleton.mpr rfl), by omega⟩]
      · rw [if_neg e, F.one]
        congr 1
        rw [List.mem_append, List.mem_singleton]
        exact propext ⟨fun h => ⟨Or.inl h.1, h.2⟩, fun h => ⟨h.1.resolve_right e, h.2⟩⟩
  · rw [if_neg c]
    have hz : ss.flatten.length = 0 := by omega
    refine ⟨F.len, fun b hb => F.zero b (by omega), ?_, fun b => ?_⟩
    · rw [F.sum, hcs, hz, List.filter_append, List.length_append, List.filter_cons_of_neg (by simp)]
      rfl
    · rw [F.one, hcs, hz]
      congr 1
      rw [List.mem_append, List.mem_singleton]
      exact propext ⟨fun h => ⟨Or.inl h.1, h.2⟩, fun h => ⟨h.1.resolve_right (by omega), h.2⟩⟩
/-- what the law's own flags say at last -/
def Edges (ps : List (List Nat)) (far : Nat) (fl : List Nat) : Prop := fl.length = far + 1 ∧ fl.sum = betw (brF ps) 0 (far : Int) ∧ ∀ b, fl.getD b 0 = if b ∈ brF ps ∧ 0 < b ∧ b < far then 1 else 0
theorem betw_nat (B : List Nat) (far : Nat) : betw B 0 (far : Int) = (B.filter fun b => decide (0 < b ∧ b < far)).length := by
  unfold betw
  congr 1
  apply List.filter_congr
  intro b _
  simp only [decide_eq_decide]
  omega
theorem flags_end {fl : List Nat} {ps : List (List Nat)} {far : Nat} (F : FlagsAt fl ps.tail far) (hne : ∀ s ∈ ps.tail, s ≠ []) (hle : ps.tail.flatten.length ≤ far) : Edges ps far (if 0 < ps.tail.flatten.length ∧ ps.tail.flatten.length < far then fl.set ps.tail.flatten.length 1 else fl) := by
  have hbr : brF ps = csF 0 ps.tail ++ [ps.tail.flatten.length] := by
    unfold brF
    rw [csF_snoc, Nat.zero_add]
  have hb := csF_bound ps.tail 0 hne
  have hf : ((csF 0 ps.tail).filter fun b => decide (0 < b ∧ b < far)) = (csF 0 ps.tail).filter fun b => decide (0 < b) := by
    apply List.filter_congr
    intro b hm
    have := hb b hm
    simp only [decide_eq_decide]
    omega
  by_cases c : 0 < ps.tail.flatten.length ∧ ps.tail.flatten.length < far
  · rw [if_pos c]
    have hlt : ps.tail.flatten.length < fl.length := by rw [F.len]; omega
    refine ⟨by rw [List.length_set]; exact F.len, ?_, fun b => ?_⟩
    · rw [set_sum _ _ hlt (F.zero _ (Nat.le_refl _)), F.sum, betw_nat, hbr, List.filter_append, List.length_append, hf, List.filter_cons_of_pos (by simpa using c)]
      rfl
    · rw [getD_set _ _ _ hlt, hbr]
      by_cases e : b = ps.tail.flatten.length
      · rw [if_pos e, if_pos ⟨by rw [e]; exact List.mem_append_right _ (List.mem_singleton.mpr rfl), by omega⟩]
      · rw [if_neg e, F.one]
        congr 1
        rw [List.mem_append, List.mem_singleton]
        exact propext ⟨fun h => ⟨Or.inl h.1, h.2, by have := hb b h.1; omega⟩, fun h => ⟨h.1.resolve_right e, h.2.1⟩⟩
  · rw [if_neg c]
    refine ⟨F.len, ?_, fun b => ?_⟩
    · rw [F.sum, betw_nat, hbr, List.filter_append, List.length_append, hf, List.filter_cons_of_neg (by simpa using c)]
      rfl
    · rw [F.one, hbr]
      congr 1
      rw [List.mem_append, List.mem_singleton]
      refine propext ⟨fun h => ⟨Or.inl h.1, h.2, by have := hb b h.1; omega⟩, fun h => ⟨?_, h.2.1⟩⟩
      rcases h.1 with z | z
      · exact z
      · exact absurd ⟨by omega, by omega⟩ c
section
variable {P : Program} {w : World} {K : PySem.W.Frag} {mg : Str → Option Value} {base : Heap}
abbrev s_law_edges : Stmt := top 41
abbrev N_law_edges : List Str := ["pieces", "far", "flags", "at", "piece"]
theorem sc_law_edges : FnScope N_law_edges ["pieces", "far"] (defScope s_law_edges) := ⟨rfl, rfl, rfl, by decide +kernel, rfl, by decide +kernel, by decide +kernel⟩
def spEd (K : PySem.W.Frag) : Sp := fun vs H Q _ => ∃ (pp : Addr) (ps : List (List Nat)) (far : Nat), vs = [.ref pp, .int (far : Int)] ∧ SqL K H pp (sV ps) ∧ (∀ s ∈ ps.tail, s ≠ []) ∧ ps.tail.flatten.length ≤ far ∧ far ≤ 4000 ∧ ps.length ≤ 5000 ∧ ∀ fl, Edges ps far fl → RetL (nV fl) H Q
theorem ok_law_edges (T : TT mg) (F : At K mg "_law_edges" s_law_edges) : Dn P w K mg base 1 "_law_edges" s_law_edges ["pieces", "far"] (spEd K) := by
  refine dn_ok F sc_law_edges (fun _ _ _ _ _ _ us hl => match us, hl with | [_, _], _ => rfl) (fun vs H Q E h => ?_) (fun f cdv A outer t H vs Q E hr h => ?_)
  · obtain ⟨pp, ps, far, rfl, _⟩ := h; rfl
  · obtain ⟨pp, ps, far, rfl, hS, hne, hle, hf4, hpl, q⟩ := h
    refine ⟨_, (pss_cons (ps_set (i := 2) sc_law_edges.nd rfl (Or.inl rfl) (pe_op op_rep (pe_lst (pa_cons pe_int pa_nil)) (pe_op op_add (pv 1) pe_int)))
      (pss_cons (ps_set (i := 3) sc_law_edges.nd rfl (Or.inl rfl) pe_int)
      (pss_cons (ps_for PassesOwn.never rfl (pi_list (pe_slice sl_list (pv 0) (po_some pe_int) po_none)) (pg_name (i := 4) sc_law_edges.nd rfl (Or.inl rfl))
        (pss_cons (ps_if (pt_cmpR op_gt (pv 3) pe_int (nomark _)) (pss_one (ps_asg pe_int (pg_sub (pv 2) (pv 3) set_list))) pss_nil)
          (pss_one (ps_set (i := 3) sc_law_edges.nd rfl (Or.inl rfl) (pe_op op_add (pv 3) (pe_callB call_len_str (by rfl) T.len boot_len (pa_cons (pv 4) pa_nil)))))))
      (pss_cons (ps_if (PW.pt (pw_and (pt_cmpR op_lt pe_int (pv 3) (nomark _)) (pw_and1 (pt_cmpR op_lt (pv 3) (pv 1) (nomark _))))) (pss_one (ps_asg pe_int (pg_sub (pv 2) (pv 3) set_list))) pss_nil)
      (pss_one (ps_ret (pv 2))))))), ?_⟩
    refine q_asgL (xs := nV (List.replicate (far + 1) 0)) (by
      have e : nV (List.replicate (far + 1) 0) = (List.replicate (Int.toNat ((far : Int) + 1)) [V.int 0]).flatten := by
        have e1 : Int.toNat ((far : Int) + 1) = far + 1 := by omega
        have e2 : ∀ n : Nat, (List.replicate n [V.int 0]).flatten = List.replicate n (V.int 0) := fun n => by
          induction n with
          | zero => rfl
          | succ n ih => rw [List.replicate_succ, List.flatten_cons, ih]; rfl
        rw [e1, e2]
        show (List.replicate (far + 1) 0).map (fun (n : Nat) => V.int (n : Int)) = _
        rw [List.map_replicate]
        rfl
      rw [e]
      exact el_rep (el_lst (ea_cons ev_c ea_nil) (by show 1 ≤ 100000; decide)) (fun _ _ => ev_op (ev_var rfl) ev_c rv_I0) (by omega) (by show 1 * _ ≤ 100000; omega) (by omega)) fun fp H1 nf e1 hfp => ?_
    refine q_asg (v := .int ((0 : Nat) : Int)) (ev_is ev_c rfl) fun H2 e2 => ?_
    have e12 := e1.trans e2
    have hle2 : ∀ i, (ps.tail.take i).flatten.length ≤ far := fun i => Nat.le_trans (take_flat_le _ _) hle
    refine q_forNLn (K := K) (xs := sV ps.tail) (by rw [← cut_tail]; exact el_sl (ev_var rfl) (eo_some ev_c) eo_none (ex_l e12 hS)) (fun sp i σ' H' => ∃ (fl : List Nat) (x : Option V), σ' = [some (.ref pp), some (.int (far : Int)), some (.ref fp), some (.int ((ps.tail.take i).flatten.length : Nat)), x] ∧ Ex H H' ∧ H' sp = some (.lst (sV ps.tail)) ∧ sp ≠ fp ∧ H' fp = some (.lst (nV fl)) ∧ FlagsAt fl (ps.tail.take i) far)
      (fun sp H3 nsp e3 hsp => ⟨_, none, rfl, e12.trans e3, hsp, fun z => by (rw [z, e2 _ _ hfp] at nsp; cases nsp), e3 _ _ (e2 _ _ hfp), flags_0 far⟩) (fun sp i σ' H' _ ⟨_, _, _, _, h, _⟩ => sq_of h) ?_ ?_
    · rintro sp i x σ' H' hx ⟨fl, x1, rfl, e, hsp, hnp, hfl, FA⟩
      have hi : i < ps.tail.length := by have := (List.getElem?_eq_some_iff.mp hx).1; rwa [List.length_map] at this
      rw [List.getElem?_map, List.getElem?_eq_getElem hi] at hx
      have hxe := Option.some.inj hx
      subst hxe
      have hni := hne _ (List.getElem_mem hi)
      have hst := flags_step FA hni (hle2 i)
      rw [← List.take_succ_eq_append_getElem hi] at hst
      have hfi := take_flat hi
      have hlf := hle2 i
      have hlf2 := hle2 (i + 1)
      generalize (ps.tail.take i).flatten.length = at_ at hst hfi hlf ⊢
      have fin : ∀ (fl2 : List Nat) (H4 : Hp), Ex H H4 → H4 sp = some (.lst (sV ps.tail)) → H4 fp = some (.lst (nV fl2)) → FlagsAt fl2 (ps.tail.take (i + 1)) far → ∀ Dd : Ends, (∀ σ5 H5, (∃ (fl : List Nat) (x : Option V), σ5 = [some (.ref pp), some (.int (far : Int)), some (.ref fp), some (.int ((ps.tail.take (i + 1)).flatten.length : Nat)), x] ∧ Ex H H5 ∧ H5 sp = some (.lst (sV ps.tail)) ∧ sp ≠ fp ∧ H5 fp = some (.lst (nV fl)) ∧ FlagsAt fl (ps.tail.take (i + 1)) far) → Dd.nx σ5 H5) →
          tAsg (tOp (rI0 fun i j => .int (i + j)) (tVar 3) (tCB (fun xs H Q => ∃ z : Str, xs = [.str z] ∧ z.length ≤ sizeLine ∧ Q (.int z.length) H) (tCons (tVar 4) tNil))) (gName 3) Dd [some (V.ref pp), some (V.int (far : Int)), some (V.ref fp), some (V.int (at_ : Int)), some (V.str (S ps.tail[i]))] H4 := by
        intro fl2 H4 e4 h4 h5 F4 Dd hD
        refine s_asg (ev_op (ev_var rfl) (ev_lenSS (ev_var rfl) (by omega)) rv_I0) fun H5 e5 => hD _ _ ⟨fl2, some (.str (S ps.tail[i])), ?_, e4.trans e5, e5 _ _ h4, hnp, e5 _ _ h5, F4⟩
        rw [hfi]
        rfl
      refine q_when (et_test (ev_op (ev_var rfl) ev_c rv_I0)) (fun hb H3 e3 => ?_) (fun hb H3 e3 => ?_)
      · have hpos : 0 < at_ := by have := of_decide_eq_true hb; omega
        rw [if_pos hpos] at hst
        have hlen : at_ < (nV fl).length := by rw [nV_len, FA.len]; omega
        refine s_setL (j := at_) (e3 _ _ hfl) ev_c (ev_var rfl) (ev_var rfl) hlen fun H4 e4 => ?_
        rw [nV_set1]
        exact fin _ _ (Ex.mut ((e.trans e3).trans e4) nf) (upd_Ne (e4 _ _ (e3 _ _ hsp)) hnp) upd_same hst _ fun _ _ h => h
      · have hz : ¬ 0 < at_ := by have := of_decide_eq_false hb; omega
        rw [if_neg hz] at hst
        exact fin _ _ (e.trans e3) (e3 _ _ hsp) (e3 _ _ hfl) hst _ fun _ _ h => h
    · rintro sp σ' H' ⟨fl, x1, rfl, e, hsp, hnp, hfl, FA⟩
      have hlen0 : (sV ps.tail).length = ps.tail.length := List.length_map _
      rw [hlen0, List.take_length] at FA ⊢
      have hE := flags_end FA hne hle
      refine q_when (b := decide ((0 : Int) < (ps.tail.flatten.length : Nat)) && decide (((ps.tail.flatten.length : Nat) : Int) < (far : Int))) (et_and (et_test (ev_op ev_c (ev_var rfl) rv_I0)) fun _ => et_test (ev_op (ev_var rfl) (ev_var rfl) rv_I0)) (fun hb H3 e3 => ?_) (fun hb H3 e3 => ?_)
      · simp only [Bool.and_eq_true, decide_eq_true_eq] at hb
        rw [if_pos ⟨by omega, by omega⟩] at hE
        have hlen : ps.tail.flatten.length < (nV fl).length := by rw [nV_len, FA.len]; omega
        refine s_setL (j := ps.tail.flatten.length) (e3 _ _ hfl) ev_c (ev_var rfl) (ev_var rfl) hlen fun H4 e4 => ?_
        rw [nV_set1]
        exact s_ret (ev_var rfl) fun H5 e5 => q _ hE fp H5 nf ((Ex.mut ((e.trans e3).trans e4) nf).trans e5) (e5 _ _ upd_same)
      · have hn : ¬ (0 < ps.tail.flatten.length ∧ ps.tail.flatten.length < far) := fun z => by
          rw [decide_eq_true (by omega), decide_eq_true (by omega)] at hb
          exact absurd hb (by decide)
        rw [if_neg hn] at hE
        exact s_ret (ev_var rfl) fun H5 e5 => q _ hE fp H5 nf ((e.trans e3).trans e5) (e5 _ _ (e3 _ _ hfl))
abbrev s_law_moved : Stmt := top 45
abbrev N_law_moved : List Str := ["pieces", "at", "row", "start", "piece"]
theorem sc_law_moved : FnScope N_law_moved ["pieces", "at"] (defScope s_law_moved) := ⟨rfl, rfl, rfl, by decide +kernel, rfl, by decide +kernel, by decide +kernel⟩
def spMv (K : PySem.W.Frag) : Sp := fun vs H Q _ => ∃ (pp : Addr) (ps : List (List Nat)) (a : Nat), vs = [.ref pp, .int (a : Int)] ∧ SqL K H pp (sV ps) ∧ ps.length ≤ 5000 ∧ ps.tail.flatten.length ≤ 4000 ∧ RetR (fun row => row = movF a ps.tail) H Q
theorem ok_law_moved (T : TT mg) (F : At K mg "_law_moved" s_law_moved) : Dn P w K mg base 1 "_law_moved" s_law_moved ["pieces", "at"] (spMv K) := by
  refine dn_ok F sc_law_moved (fun _ _ _ _ _ _ us hl => match us, hl with | [_, _], _ => rfl) (fun vs H Q E h => ?_) (fun f cdv A outer t H vs Q E hr h => ?_)
  · obtain ⟨pp, ps, a, rfl, _⟩ := h; rfl
  · obtain ⟨pp, ps, a, rfl, hS, hpl, hfl, q⟩ := h
    refine ⟨_, (pss_cons (ps_set (i := 2) sc_law_moved.nd rfl (Or.inl rfl) (pe_lst pa_nil))
      (pss_cons (ps_set (i := 3) sc_law_moved.nd rfl (Or.inl rfl) (pv 1))
      (pss_cons (ps_for PassesOwn.never rfl (pi_list (pe_slice sl_list (pv 0) (po_some pe_int) po_none)) (pg_name (i := 4) sc_law_moved.nd rfl (Or.inl rfl))
        (pss_cons (ps_expr (pe_bm PySem.F.plainAttrs_list PySem.F.slot_list_append PySem.F.type_list_append mt_append (pv 2) (pa_cons (pe_tup (pa_cons (pv 3) (pa_cons (pe_op op_add (pv 3) (pe_callB call_len_str (by rfl) T.len boot_len (pa_cons (pv 4) pa_nil))) pa_nil))) pa_nil)))
          (pss_one (ps_set (i := 3) sc_law_moved.nd rfl (Or.inl rfl) (pe_op op_add (pv 3) (pe_callB call_len_str (by rfl) T.len boot_len (pa_cons (pv 4) pa_nil)))))))
      (pss_one (ps_ret (pv 2)))))), ?_⟩
    refine q_asgL (el_lst ea_nil (by decide)) fun kp H1 nk e1 hk => ?_
    refine q_asg (ev_var rfl) fun H2 e2 => ?_
    have e12 := e1.trans e2
    refine q_forNLn (K := K) (xs := sV ps.tail) (by rw [← cut_tail]; exact el_sl (ev_var rfl) (eo_some ev_c) eo_none (ex_l e12 hS)) (fun sp i σ' H' => ∃ (qs : List Addr) (x : Option V), σ' = [some (.ref pp), some (.int (a : Int)), some (.ref kp), some (.int ((a + (ps.tail.take i).flatten.length : Nat) : Int)), x] ∧ Ex H H' ∧ H' sp = some (.lst (sV ps.tail)) ∧ sp ≠ kp ∧ RowX H' kp (movF a (ps.tail.take i)) qs)
      (fun sp H3 nsp e3 hsp => ⟨[], none, rfl, e12.trans e3, hsp, fun z => by (rw [z, e2 _ _ hk] at nsp; cases nsp), ⟨e3 _ _ (e2 _ _ hk), rfl, fun k hk => absurd hk (Nat.not_lt_zero k)⟩⟩) (fun sp i σ' H' _ ⟨_, _, _, _, h, _⟩ => sq_of h) ?_ ?_
    · rintro sp i x σ' H' hx ⟨qs, x1, rfl, e, hsp, hnp, hR⟩
      have hi : i < ps.tail.length := by have := (List.getElem?_eq_some_iff.mp hx).1; rwa [List.length_map] at this
      rw [List.getElem?_map, List.getElem?_eq_getElem hi] at hx
      have hxe := Option.some.inj hx
      subst hxe
      have hfi := take_flat hi
      have hle := take_flat_le ps.tail (i + 1)
      have hmv : movF a (ps.tail.take (i + 1)) = movF a (ps.tail.take i) ++ [(((a + (ps.tail.take i).flatten.length : Nat) : Int), ((a + (ps.tail.take i).flatten.length : Nat) : Int) + (ps.tail[i].length : Int))] := by rw [List.take_succ_eq_append_getElem hi, movF_snoc]
      have hrl : (movF a (ps.tail.take i)).length ≤ 5000 := by
        rw [movF_len, List.length_take]
        rw [List.length_tail] at hi ⊢
        omega
      have hal : a + (ps.tail.take (i + 1)).flatten.length = (a + (ps.tail.take i).flatten.length) + ps.tail[i].length := by omega
      rw [hmv, hal]
      generalize a + (ps.tail.take i).flatten.length = b at hR ⊢
      refine q_appU hR.1 (ev_var rfl) (eu_tup (ea_cons (ev_var rfl) (ea_cons (ev_op (ev_var rfl) (ev_lenSS (ev_var rfl) (by omega)) rv_I0) ea_nil)) (by show 2 ≤ 100000; decide)) (by rw [List.length_map, hR.2.1]; omega) fun tp H5 nt e5 ht => ?_
      have hR5 := (hR.ex e5).app (pt := ((b : Int), (b : Int) + (ps.tail[i].length : Int))) ht
      refine s_asg (ev_op (ev_var rfl) (ev_lenSS (ev_var rfl) (by omega)) rv_I0) fun H6 e6 => ⟨qs ++ [tp], some (.str (S ps.tail[i])), rfl, (Ex.mut (e.trans e5) nk).trans e6, e6 _ _ (upd_Ne (e5 _ _ hsp) hnp), hnp, hR5.ex e6⟩
    · rintro sp σ' H' ⟨qs, x1, rfl, e, hsp, hnp, hR⟩
      have hlen0 : (sV ps.tail).length = ps.tail.length := List.length_map _
      rw [hlen0, List.take_length] at hR
      exact s_ret (ev_var rfl) fun H5 e5 => q kp _ H5 (e.trans e5) (hR.ex e5).row rfl
end
end My

set_option Elab.async false
set_option linter.all false
set_option maxRecDepth 100000
set_option maxHeartbeats 4000000
namespace My
open PySem PySem.Spec PyProof.Rows L2 Evl
open SX (S S_len S_cat S_beq S_beq_eq S_inj S_tl)
theorem given_all (n : Nat) (v : Nat → V) : given n (fun _ => true) v = (List.range n).map v := by
  unfold given
  rw [List.filter_eq_self.mpr fun _ _ => rfl]
theorem range_filter {α : Type} (p : α → Bool) (d : α) : ∀ l : List α, ((List.range l.length).filter fun i => p (l.getD i d)).length = (l.filter p).length := by
  intro l
  induction l using snoc_ind with
  | h0 => rfl
  | hs l a ih =>
    rw [List.length_append, show [a].length = 1 from rfl, List.range_succ, List.filter_append, List.length_append, List.filter_append, List.length_append]
    have e1 : ((List.range l.length).filter fun i => p ((l ++ [a]).getD i d)) = (List.range l.length).filter fun i => p (l.getD i d) := by
      apply List.filter_congr
      intro i hi
      rw [getD_left (List.mem_range.mp hi)]
    rw [e1, ih]
    congr 1
    by_cases c : p a = true
    · rw [List.filter_cons_of_pos (by rw [getD_last]; exact c), List.filter_cons_of_pos c]; rfl
    · rw [List.filter_cons_of_neg (by rw [getD_last]; exact c), List.filter_cons_of_neg c]; rfl
theorem starts_cs : ∀ (ss : List (List Nat)) (st : List Nat) (a : Nat), ss.foldl (fun st p => st ++ [st.getD (st.length - 1) 0 + p.length]) (st ++ [a]) = st ++ csF a (ss ++ [[]])
  | [], st, a => rfl
  | s :: ss, st, a => by
    rw [List.foldl_cons]
    have e : (st ++ [a]).getD ((st ++ [a]).length - 1) 0 = a := by
      rw [List.length_append]
      exact getD_last
    rw [e, starts_cs ss (st ++ [a]) (a + s.length), List.append_assoc]
    rfl
theorem startsF_br (ps : List (List Nat)) : startsF ps = brF ps := starts_cs ps.tail [] 0
theorem exW : ∀ L : List (List Nat), ∃ ws : List (List Nat), ws.Nodup ∧ ∀ u, u ∈ ws ↔ u ∈ L
  | [] => ⟨[], List.nodup_nil, fun _ => Iff.rfl⟩
  | a :: L => by
    obtain ⟨ws, h1, h2⟩ := exW L
    refine ⟨insW ws a, insW_nodup h1, fun u => ?_⟩
    rw [insW_mem, h2, List.mem_cons]
    exact ⟨fun h => h.symm, fun h => h.symm⟩
theorem facs_ex {rows : List (Nat × Nat)} (hp : ∀ (i : Nat) (r : Nat × Nat), rows[i]? = some r → r.1 ≤ i) : ∃ all, Facs (piF rows) all := by
  obtain ⟨ws, h1, h2⟩ := exW ((piF rows).flatMap fun p => (List.range p.length).map fun s => p.drop s)
  refine ⟨ws, facs_ends hp h1 fun u => (h2 u).trans ?_⟩
  rw [List.mem_flatMap]
  constructor
  · rintro ⟨p, hp, hu⟩
    obtain ⟨s, hs, rfl⟩ := List.mem_map.mp hu
    exact ⟨p, hp, s, List.mem_range.mp hs, rfl⟩
  · rintro ⟨p, hp, s, hs, rfl⟩
    exact ⟨p, hp, List.mem_map.mpr ⟨s, List.mem_range.mpr hs, rfl⟩⟩
section
variable {K : PySem.W.Frag} {σ : L2.St} {H : Hp} {ta tb te tv td ty : TE} {v : V} {D : Ends} {tu tz : TS}
theorem q_dnew0 {i : Nat} (k : ∀ p H1, H p = none → H1 p = some (.dK []) → Ex H H1 → tz D (σ.set i (some (.ref p))) H1) : tSeq (tAsg tDNewK (gName i)) tz D σ H := fun p hp => k p _ hp upd_same (Ex.new hp)
theorem s_dputK {d : Addr} {kvs : List (Key × V)} {w : List Nat} (hv : Ev tv σ H v) (ho : Ev td σ H (.ref d)) (hi : Ev ty σ H (.str (S w))) (hd : H d = some (.dK kvs)) (hl : kvs.length < sizeLine) (kk : ∀ H1, Ex H H1 → D.nx σ (upd H1 d (.dK (putK kvs (Sum.inr (S w)) v)))) : sDPut td ty tv D σ H :=
  hv H (Ex.refl H) _ fun H1 e1 => ho H1 e1 _ fun H2 e2 => hi H2 (e1.trans e2) _ fun H3 e3 => ⟨d, _, rfl, DPut.k (k := Sum.inr (S w)) (((e1.trans e2).trans e3) _ _ hd) hl, kk H3 ((e1.trans e2).trans e3)⟩
theorem q_forKeys {i j : Nat} {d : Addr} {kvs : List (Key × V)} (hv : σ[i]? = some (some (.ref d))) (hd : H d = some (.dK kvs)) (Pv : Obj → Nat → L2.St → Hp → Prop) (h0 : ∀ od, Pv od 0 σ (upd H d (.frz od (.dK kvs))))
    (hl : ∀ od n σ' H', Pv od n σ' H' → H' d = some (.frz od (.dK kvs)))
    (hs : ∀ od n k z σ' H', kvs[n]? = some (k, z) → Pv od n σ' H' → ∀ D' : Ends, (∀ σ2 H2, Pv od (n + 1) σ2 H2 → D'.nx σ2 H2) → tu D' (σ'.set j (some (kV k))) H')
    (hd2 : ∀ od σ' H', Pv od kvs.length σ' H' → tz D σ' (upd H' d (.dK kvs))) : tSeq (tLock (tFor (iKeys (tVar i)) (gName j) tu)) tz D σ H := s_forKeys (D := { D with nx := tz D }) hv hd Pv h0 hl hs hd2
end
theorem tKV_len (ws : List (List Nat)) : (tKV ws).length = ws.length := List.length_map _
section
variable {P : Program} {w : World} {K : PySem.W.Frag} {mg : Str → Option Value} {base : Heap}
variable {CG CC : Addr}
abbrev s_inside_counts : Stmt := top 3
abbrev N_inside_counts : List Str := ["cut", "words", "piece", "counts", "word", "start"]
theorem sc_inside_counts : FnScope N_inside_counts ["cut"] (defScope s_inside_counts) := ⟨rfl, rfl, rfl, by decide +kernel, rfl, by decide +kernel, by decide +kernel⟩
def spIns (CC : Addr) : Sp := fun vs H Q _ => ∃ (p : Addr) (abc : List Nat) (rows : List (Nat × Nat)) (at_ n : Nat) (all : List (List Nat)), vs = [.ref p] ∧ CutAt CC H p abc rows at_ ∧ (∀ (i : Nat) (r : Nat × Nat), rows[i]? = some r → r.1 ≤ i) ∧ rows.length ≤ 400 ∧ IsMax n (piF rows) ∧ Facs (piF rows) all ∧ RetU (nV (cntsF n all)) H Q
theorem ok_inside_counts (T : TC K mg CG CC) (F : At K mg "inside_counts" s_inside_counts) : Dn P w K mg base 1 "inside_counts" s_inside_counts ["cut"] (spIns CC) := by
  refine dn_ok F sc_inside_counts (fun _ _ _ _ _ _ us hl => match us, hl with | [_], _ => rfl) (fun vs H Q E h => ?_) (fun f cdv A outer t H vs Q E hr h => ?_)
  · obtain ⟨p, abc, rows, at_, n, all, rfl, _⟩ := h; rfl
  · obtain ⟨p, abc, rows, at_, n, all, rfl, hC, hpar, hl4, hmax, hfac, q⟩ := h
    refine ⟨_, (pss_cons (ps_set (i := 1) sc_inside_counts.nd rfl (Or.inl rfl) pe_dnewK)
      (pss_cons (ps_for PassesOwn.never rfl (pi_tup (pe_fld (pv 0) rfl)) (pg_name (i := 2) sc_inside_counts.nd rfl (Or.inl rfl))
        (pss_one (ps_for PassesOwn.never rfl (pi_range1 (by rfl) T.range (pa_cons (pe_callB call_len_str (by rfl) T.len boot_len (pa_cons (pv 2) pa_nil)) pa_nil)) (pg_name (i := 5) sc_inside_counts.nd rfl (Or.inl rfl))
            (pss_one (ps_dput (hu_of hr) (pv 1) (pe_slice sl_str (pv 2) (po_some (pv 5)) po_none) pe_bl rfl)))))
      (pss_cons (ps_set (i := 3) sc_inside_counts.nd rfl (Or.inl rfl) (pe_op op_rep (pe_lst (pa_cons pe_int pa_nil)) (pe_callB (cr_max rfl) (by rfl) T.max (by decide +kernel) (pa_cons (pe_lc (own := [("piece", 2)]) (g := gName 2) (tt := tYes) rfl sc_inside_counts.nd (pi_tup (pe_fld (pv 0) rfl)) (blkOk_by (own := [("piece", 2)]) (N := N_inside_counts) (sc := defScope s_inside_counts) (by decide +kernel)) (fun _ _ _ _ _ => pg_name (i := 2) sc_inside_counts.nd rfl (Or.inl rfl)) (fun _ _ _ _ _ => pts_nil) (fun _ _ _ _ _ => (pe_callB call_len_str (by rfl) T.len boot_len (pa_cons (pv 2) pa_nil)))) pa_nil))))
      (pss_cons (ps_lock (ps_for PassesOwn.never rfl (pi_keys (pv 1)) (pg_name (i := 4) sc_inside_counts.nd rfl (Or.inl rfl))
        (pss_one (ps_augS (pv 3) (pe_op op_sub (pe_callB call_len_str (by rfl) T.len boot_len (pa_cons (pv 4) pa_nil)) pe_int) pget_list pe_int ip_add set_list))))
      (pss_one (ps_ret (pe_callTy call_tuple_of (by rfl) T.tuple_ (by decide +kernel) (pa_cons (pv 3) pa_nil)))))))), ?_⟩
    obtain ⟨dx, k, qp, tt, rs, fs, ho, f1, f2, f3, f4, f5, f6, f7, hk, R, hq, htt⟩ := hC
    have hlen := piF_len rows
    have hshort : ∀ u ∈ piF rows, u.length ≤ 400 := fun u hu => by
      obtain ⟨i, hi, e⟩ := List.getElem_of_mem hu
      rw [hlen] at hi
      have := piF_short hpar i (by omega)
      rw [List.getD_eq_getElem?_getD, List.getElem?_eq_getElem (by omega)] at this
      have h2 : ((piF rows)[i]'(by omega)).length ≤ i := this
      rw [e] at h2
      omega
    have hsl : (sV (piF rows)).length = (piF rows).length := List.length_map _
    refine q_dnew0 fun d H1 nd hd e1 => ?_
    refine q_forT (K := K) (ev_fld (ev_var rfl) (e1 _ _ ho) T.cut T.nCp f4) (st_of (e1 _ _ hq)) (fun i σ' H' => ∃ (ws : List (List Nat)) (x y : Option V), σ' = [some (.ref p), some (.ref d), x, none, none, y] ∧ Ex H H' ∧ H' d = some (.dK (tKV ws)) ∧ ws.Nodup ∧ (∀ u, u ∈ ws ↔ ∃ pc ∈ (piF rows).take i, ∃ s, s < pc.length ∧ u = pc.drop s) ∧ ws.length ≤ i * 400)
      (fun H2 e2 => ⟨[], none, none, rfl, e1.trans e2, e2 _ _ hd, List.nodup_nil, fun u => ⟨fun h => absurd h List.not_mem_nil, fun ⟨pc, h, _⟩ => absurd h List.not_mem_nil⟩, Nat.zero_le _⟩) (fun i σ' H' _ ⟨_, _, _, _, e, _⟩ => st_of (e _ _ hq)) ?_ ?_
    · rintro i x σ' H' hx ⟨ws, x1, y1, rfl, e, hdw, nd1, hmem, hwl⟩
      have hi : i < (piF rows).length := by have := (List.getElem?_eq_some_iff.mp hx).1; omega
      rw [List.getElem?_map, List.getElem?_eq_getElem hi] at hx
      have hxe := Option.some.inj hx
      subst hxe
      have hpl := hshort _ (List.getElem_mem hi)
      have htk := List.take_succ_eq_append_getElem hi
      rw [htk]
      show tFor _ _ _ _ [some (V.ref p), some (V.ref d), some (V.str (S (piF rows)[i])), none, none, y1] H'
      generalize (piF rows)[i] = pc at hpl
      refine s_forR1 (ea_cons (ev_lenSS (ev_var rfl) (by omega)) ea_nil) ⟨by omega, by omega⟩ (fun j σ2 H2 => ∃ (ws2 : List (List Nat)) (y : Option V), σ2 = [some (.ref p), some (.ref d), some (.str (S pc)), none, none, y] ∧ Ex H H2 ∧ H2 d = some (.dK (tKV ws2)) ∧ ws2.Nodup ∧ (∀ u, u ∈ ws2 ↔ (∃ pc ∈ (piF rows).take i, ∃ s, s < pc.length ∧ u = pc.drop s) ∨ ∃ s, s < j ∧ u = pc.drop s) ∧ ws2.length ≤ i * 400 + j)
        (fun H3 e3 => ⟨ws, y1, rfl, e.trans e3, e3 _ _ hdw, nd1, fun u => (hmem u).trans ⟨Or.inl, fun h => h.elim id fun ⟨s, h, _⟩ => absurd h (Nat.not_lt_zero s)⟩, hwl⟩) ?_ ?_
      · rintro j σ2 H2 hj ⟨ws2, y2, rfl, e2, hd2, nd2, hm2, hl2⟩
        refine s_dputK (w := pc.drop j) ev_c (ev_var rfl) (by
          have := ev_slS (σ := [some (V.ref p), some (V.ref d), some (V.str (S pc)), none, none, some (V.int (j : Int))]) (H := H2) (te := tVar 2) (tl := tPart (tVar 5)) (th := tNoPart) (l := pc) (lo := some (j : Int)) (hi := none) (ev_var rfl) (eo_some (ev_var rfl)) eo_none (by omega)
          rw [cutL_from (by omega), Int.toNat_natCast] at this
          exact this) hd2 (by rw [tKV_len]; show _ < 16777216; omega) fun H3 e3 => ?_
        rw [putK_tKV]
        refine ⟨insW ws2 (pc.drop j), _, rfl, Ex.mut (e2.trans e3) nd, upd_same, insW_nodup nd2, fun u => ?_, by have := insW_len ws2 (pc.drop j); omega⟩
        rw [insW_mem, hm2 u]
        constructor
        · rintro ((h | ⟨s, hs, h⟩) | h)
          · exact Or.inl h
          · exact Or.inr ⟨s, by omega, h⟩
          · exact Or.inr ⟨j, by omega, h⟩
        · rintro (h | ⟨s, hs, h⟩)
          · exact Or.inl (Or.inl h)
          · by_cases c : s = j
            · exact Or.inr (c ▸ h)
            · exact Or.inl (Or.inr ⟨s, by omega, h⟩)
      · rintro σ2 H2 ⟨ws2, y2, rfl, e2, hd2, nd2, hm2, hl2⟩
        have e9 : ((pc.length : Int)).toNat = pc.length := Int.toNat_natCast _
        rw [e9] at hm2 hl2
        refine ⟨ws2, _, _, rfl, e2, hd2, nd2, fun u => (hm2 u).trans ?_, by rw [Nat.add_mul]; omega⟩
        constructor
        · rintro (⟨q1, h1, h2⟩ | ⟨s, hs, h⟩)
          · exact ⟨q1, List.mem_append_left _ h1, h2⟩
          · exact ⟨pc, List.mem_append_right _ (List.mem_singleton.mpr rfl), s, hs, h⟩
        · rintro ⟨q1, h1, s, hs, h⟩
          rcases List.mem_append.mp h1 with h1 | h1
          · exact Or.inl ⟨q1, h1, s, hs, h⟩
          · rw [List.mem_singleton.mp h1] at hs h
            exact Or.inr ⟨s, hs, h⟩
    · rintro σ' H' ⟨ws, x1, y1, rfl, e, hdw, nd1, hmem, hwl⟩
      rw [hsl, List.take_length] at hmem
      rw [hsl] at hwl
      have hF := facs_ends hpar nd1 hmem
      have hn4 : n ≤ 400 := by obtain ⟨⟨u, hu, rfl⟩, _⟩ := hmax; exact hshort u hu
      have hcn : cntsF n all = cntsF n ws := by
        unfold cntsF
        exact List.map_congr_left fun k _ => facs_same hfac hF (k + 1)
      rw [hcn] at q
      refine q_asgL (xs := nV (cntsF n [])) (by
        have e0 : nV (cntsF n []) = (List.replicate (Int.toNat (n : Int)) [V.int 0]).flatten := by
          have e2 : ∀ m : Nat, (List.replicate m [V.int 0]).flatten = List.replicate m (V.int 0) := fun m => by
            induction m with
            | zero => rfl
            | succ m ih => rw [List.replicate_succ, List.flatten_cons, ih]; rfl
          rw [cntsF_zero, Int.toNat_natCast, e2]
          show (List.replicate n 0).map (fun (n : Nat) => V.int (n : Int)) = _
          rw [List.map_replicate]
          rfl
        rw [e0]
        refine el_rep (el_lst (ea_cons ev_c ea_nil) (by show 1 ≤ 100000; decide)) (fun H3 e3 => ?_) (by omega) (by show 1 * _ ≤ 100000; omega) (by omega)
        refine ev_maxL (K := K) (ns := (piF rows).map fun u => (u.length : Int)) (v := (n : Int)) ?_ (by rw [List.length_map]; omega) ?_
        · have eg : ((piF rows).map fun u => (u.length : Int)).map V.int = given (sV (piF rows)).length (fun _ => true) fun i => V.int (((piF rows).getD i []).length : Int) := by
            rw [given_all, hsl, List.map_map]
            apply List.ext_getElem?
            intro i
            rw [List.getElem?_map, List.getElem?_map]
            by_cases c : i < (piF rows).length
            · rw [List.getElem?_range c, List.getElem?_eq_getElem c]
              show some _ = some (V.int (((piF rows).getD i []).length : Int))
              rw [List.getD_eq_getElem?_getD, List.getElem?_eq_getElem c]
              rfl
            · rw [List.getElem?_eq_none (by omega), List.getElem?_eq_none (by rw [List.length_range]; omega)]
              rfl
          rw [eg]
          refine el_lcT (K := K) (fun _ => true) (fun i => V.int (((piF rows).getD i []).length : Int)) (ev_fld (ev_var rfl) ((e.trans e3) _ _ ho) T.cut T.nCp f4) (st_of ((e.trans e3) _ _ hq)) (by omega) (fun _ => rfl) (fun _ _ _ _ _ => et_yes) (fun i x H4 e4 hx _ => ?_)
          have hi : i < (piF rows).length := by have := (List.getElem?_eq_some_iff.mp hx).1; omega
          rw [List.getElem?_map, List.getElem?_eq_getElem hi] at hx
          have hxe := Option.some.inj hx
          subst hxe
          rw [List.getD_eq_getElem?_getD, List.getElem?_eq_getElem hi]
          have := hshort _ (List.getElem_mem hi)
          show Ev _ _ _ (.int ((piF rows)[i].length : Int))
          exact ev_lenSS (ev_var rfl) (by omega)
        · intro m hm hle
          obtain ⟨u, hu, rfl⟩ := List.mem_map.mp hm
          obtain ⟨⟨v, hv, e1⟩, h2⟩ := hmax
          have a1 := h2 u hu
          have a2 := hle _ (List.mem_map.mpr ⟨v, hv, rfl⟩)
          omega) fun l H3 nl e3 hl3 => ?_
      have nl0 : H l = none := fresh_back e nl
      have ndl : d ≠ l := fun z => by rw [← z, hdw] at nl; cases nl
      have hws := facs_len hF hmax
      refine q_forKeys (kvs := tKV ws) rfl (e3 _ _ hdw) (fun od i σ' H' => ∃ z : Option V, σ' = [some (.ref p), some (.ref d), x1, some (.ref l), z, y1] ∧ Ex H H' ∧ H' d = some (.frz od (.dK (tKV ws))) ∧ H' l = some (.lst (nV (cntsF n (ws.take i)))))
        (fun od => ⟨none, rfl, Ex.mut (e.trans e3) nd, upd_same, upd_Ne hl3 ndl.symm⟩) (fun od i σ' H' ⟨_, _, _, h, _⟩ => h) ?_ ?_
      · rintro od i k z σ' H4 hkz ⟨z1, rfl, e4, h4, h5⟩ D' hD
        have hi : i < ws.length := by have := (List.getElem?_eq_some_iff.mp hkz).1; rwa [tKV_len] at this
        unfold tKV at hkz
        rw [List.getElem?_map, List.getElem?_eq_getElem hi] at hkz
        have hke := Option.some.inj hkz
        have hk1 : k = Sum.inr (S ws[i]) := (Prod.mk.inj hke).1.symm
        subst hk1
        have hwi := hws _ (List.getElem_mem hi)
        have hst := cntsF_step (ws := ws.take i) hwi.1 hwi.2
        rw [← List.take_succ_eq_append_getElem hi] at hst
        show tAugS _ _ _ _ _ _ D' [some (V.ref p), some (V.ref d), x1, some (V.ref l), some (V.str (S ws[i])), y1] H4
        refine s_augSL (m := 1) (k := ws[i].length - 1) (ev_var rfl) (ev_is (ev_op (ev_lenSS (ev_var rfl) (by omega)) ev_c rv_I0) (by congr 1; omega)) ev_c h5 (by rw [cntsF_len]; omega) fun H5 e5 => hD _ _ ⟨_, rfl, Ex.mut (e4.trans e5) nl0, upd_Ne (e5 _ _ h4) ndl, ?_⟩
        rw [upd_same, hst]
      · rintro od σ' H4 ⟨z1, rfl, e4, h4, h5⟩
        rw [tKV_len, List.take_length] at h5
        have h6 : (upd H4 d (.dK (tKV ws))) l = some (.lst (nV (cntsF n ws))) := upd_Ne h5 ndl.symm
        exact s_retU (eu_tupOf (ev_var rfl) (sq_of h6)) fun pp H7 np e7 hp7 => q pp H7 (fresh_back (Ex.mut e4 nd) np) ((Ex.mut e4 nd).trans e7) hp7
end
end My

set_option Elab.async false
set_option linter.all false
set_option maxRecDepth 100000
set_option maxHeartbeats 4000000
namespace My
open PySem PySem.Spec PyProof.Rows L2 Evl
open SX (S S_len S_cat S_beq S_beq_eq S_inj S_tl)
section
variable {P : Program} {w : World} {K : PySem.W.Frag} {mg : Str → Option Value} {base : Heap}
variable {CG CC : Addr}
abbrev s_borders : Stmt := top 5
abbrev N_borders : List Str := ["cut", "start"]
theorem sc_borders : FnScope N_borders ["cut"] (defScope s_borders) := ⟨rfl, rfl, rfl, by decide +kernel, rfl, by decide +kernel, by decide +kernel⟩
def spBo (CC : Addr) : Sp := fun vs H Q _ => ∃ (p : Addr) (abc : List Nat) (rows : List (Nat × Nat)) (at_ : Nat) (text : List Nat), vs = [.ref p] ∧ CutAt CC H p abc rows at_ ∧ rows.length ≤ 400 ∧ ((piF rows).tail).flatten ++ (piF rows).getD at_ [] = text ∧ text.length ≤ 4000 ∧ RetV (.int (betw (brF (piF rows)) 0 (text.length : Int) : Nat)) H Q
theorem ok_borders (T : TC K mg CG CC) (F : At K mg "borders" s_borders) : Dn P w K mg base 1 "borders" s_borders ["cut"] (spBo CC) := by
  refine dn_ok F sc_borders (fun _ _ _ _ _ _ us hl => match us, hl with | [_], _ => rfl) (fun vs H Q E h => ?_) (fun f cdv A outer t H vs Q E hr h => ?_)
  · obtain ⟨p, abc, rows, at_, text, rfl, _⟩ := h; rfl
  · obtain ⟨p, abc, rows, at_, text, rfl, hC, hl4, htx, hz, q⟩ := h
    refine ⟨_, (pss_one (ps_ret (pe_callB call_len_seq (by rfl) T.len boot_len (pa_cons (pe_lc (own := [("start", 1)]) (g := gName 1) (tt := tTest (tChain (rI0 fun i j => .bl (decide (i < j))) (rI0 fun i j => .bl (decide (i < j))) (tC (.int 0)) (tVar 1) (tCB (fun xs H Q => ∃ z : Str, xs = [.str z] ∧ z.length ≤ sizeLine ∧ Q (.int z.length) H) (tCons (tFld K (tVar 0) "text") tNil)))) rfl sc_borders.nd (pi_tup (pe_fld (pv 0) rfl)) (blkOk_by (own := [("start", 1)]) (N := N_borders) (sc := defScope s_borders) (by decide +kernel)) (fun _ _ _ _ _ => pg_name (i := 1) sc_borders.nd rfl (Or.inl rfl)) (fun _ _ _ _ _ => (pts_one (pt_chain op_lt op_lt pe_int (pv 1) (pe_callB call_len_str (by rfl) T.len boot_len (pa_cons (pe_fld (pv 0) rfl) pa_nil))))) (fun _ _ _ _ _ => (pv 1))) pa_nil)))), ?_⟩
    obtain ⟨dx, k, qp, tt, rs, fs, ho, f1, f2, f3, f4, f5, f6, f7, hk, R, hq, htt⟩ := hC
    rw [htx] at f6
    have hlen := piF_len rows
    rw [startsF_br] at htt
    have hbl : (brF (piF rows)).length = (piF rows).length := by
      have hcl : ∀ (ss : List (List Nat)) (a : Nat), (csF a ss).length = ss.length := by
        intro ss
        induction ss with
        | nil => intro a; rfl
        | cons s ss ih => intro a; show (csF _ ss).length + 1 = ss.length + 1; rw [ih]
      unfold brF
      rw [hcl, List.length_append, List.length_tail]
      show _ - 1 + 1 = _
      omega
    have hnl : (nV (brF (piF rows))).length = (brF (piF rows)).length := nV_len _
    have hfin : ((given (nV (brF (piF rows))).length (fun i => decide ((0 : Int) < ((brF (piF rows)).getD i 0 : Nat)) && decide ((((brF (piF rows)).getD i 0 : Nat) : Int) < (text.length : Int))) fun i => V.int ((brF (piF rows)).getD i 0 : Nat)).length : Int) = ((betw (brF (piF rows)) 0 (text.length : Int) : Nat) : Int) := by
      unfold given
      rw [List.length_map, hnl, range_filter (fun b : Nat => decide ((0 : Int) < (b : Nat)) && decide (((b : Nat) : Int) < (text.length : Int))) 0]
      unfold betw
      congr 2
      apply List.filter_congr
      intro b _
      rw [Bool.decide_and]
    rw [← hfin] at q
    refine s_ret (ev_lenN (el_lcT (K := K) (fun i => decide ((0 : Int) < ((brF (piF rows)).getD i 0 : Nat)) && decide ((((brF (piF rows)).getD i 0 : Nat) : Int) < (text.length : Int))) (fun i => V.int ((brF (piF rows)).getD i 0 : Nat)) (ev_fld (ev_var rfl) ho T.cut T.nCs f7) (st_of htt) (by omega) (fun _ => rfl) (fun i x H1 e1 hx => ?_) (fun i x H1 e1 hx _ => ?_))) fun H2 e2 => q H2 e2
    · have hi : i < (brF (piF rows)).length := by have := (List.getElem?_eq_some_iff.mp hx).1; omega
      rw [List.getElem?_map, List.getElem?_eq_getElem hi] at hx
      have hxe := Option.some.inj hx
      subst hxe
      have e3 : (brF (piF rows)).getD i 0 = (brF (piF rows))[i] := by rw [List.getD_eq_getElem?_getD, List.getElem?_eq_getElem hi]; rfl
      rw [e3]
      exact et_chain ev_c (ev_var rfl) (ev_lenSS (ev_fld (ev_var rfl) (e1 _ _ ho) T.cut T.nCx f6) (by omega)) rv_I0 rv_I0
    · have hi : i < (brF (piF rows)).length := by have := (List.getElem?_eq_some_iff.mp hx).1; omega
      rw [List.getElem?_map, List.getElem?_eq_getElem hi] at hx
      have hxe := Option.some.inj hx
      subst hxe
      have e3 : (brF (piF rows)).getD i 0 = (brF (piF rows))[i] := by rw [List.getD_eq_getElem?_getD, List.getElem?_eq_getElem hi]; rfl
      rw [e3]
      exact ev_var rfl
abbrev s_spread : Stmt := top 6
abbrev N_spread : List Str := ["cut"]
theorem sc_spread : FnScope N_spread ["cut"] (defScope s_spread) := ⟨rfl, rfl, rfl, by decide +kernel, rfl, by decide +kernel, by decide +kernel⟩
theorem ev_fillIns {σ : L2.St} {H : Hp} {tl tp : TE} {E1 E2 : XK} {p : Addr} {abc : List Nat} {rows : List (Nat × Nat)} {at_ L n : Nat} {all : List (List Nat)} (hl : Ev tl σ H (.int (L : Int))) (hp : Ev tp σ H (.ref p)) (hC : CutAt CC H p abc rows at_) (hpar : ∀ (i : Nat) (r : Nat × Nat), rows[i]? = some r → r.1 ≤ i) (h4 : rows.length ≤ 400) (hm : IsMax n (piF rows)) (hf : Facs (piF rows) all) (hn : n ≤ 400) :
    Ev (tCall (spFi K) [] E1 (tCons tl (tCons (tCall (spIns CC) [] E2 (tCons tp tNil)) tNil))) σ H (.int (greedy 1 L (cntsF n all) : Nat)) := fun H0 e0 Q q =>
  hl H0 e0 _ fun H1 e1 => hp H1 (e0.trans e1) _ fun H2 e2 => ⟨p, abc, rows, at_, n, all, rfl, hC.ex ((e0.trans e1).trans e2), hpar, h4, hm, hf, fun tp H3 _ e3 ht => ⟨L, tp, cntsF n all, rfl, st_of ht, by rw [cntsF_len]; omega, fun H4 e4 => q H4 (((e1.trans e2).trans e3).trans e4)⟩⟩
def spSp (CC : Addr) : Sp := fun vs H Q _ => ∃ (p : Addr) (abc : List Nat) (text : List Nat) (n : Nat) (all : List (List Nat)), vs = [.ref p] ∧ CutAt CC H p abc (cutC text).1 (cutC text).2 ∧ text.length ≤ 400 ∧ IsMax n (piF (cutC text).1) ∧ Facs (piF (cutC text).1) all ∧ RetV (.int (betw (brF (piF (cutC text).1)) 0 (text.length : Int) + greedy 1 text.length (cntsF n all) : Nat)) H Q
theorem ok_spread (D_borders : Dn P w K mg base 1 "borders" s_borders ["cut"] (spBo CC)) (D_fill : Dn P w K mg base 1 "fill" s_fill ["length", "counts"] (spFi K)) (D_inside_counts : Dn P w K mg base 1 "inside_counts" s_inside_counts ["cut"] (spIns CC)) (T : TC K mg CG CC) (F : At K mg "spread" s_spread) : Dn P w K mg base 2 "spread" s_spread ["cut"] (spSp CC) := by
  refine dn_ok F sc_spread (fun _ _ _ _ _ _ us hl => match us, hl with | [_], _ => rfl) (fun vs H Q E h => ?_) (fun f cdv A outer t H vs Q E hr h => ?_)
  · obtain ⟨p, abc, text, n, all, rfl, _⟩ := h; rfl
  · obtain ⟨p, abc, text, n, all, rfl, hC, hz, hmax, hfac, q⟩ := h
    refine ⟨_, (pss_one (ps_ret (pe_op op_add (pe_dn D_borders hr (by decide) rfl (pa_cons (pv 0) pa_nil)) (pe_dn D_fill hr (by decide) rfl (pa_cons (pe_callB call_len_str (by rfl) T.len boot_len (pa_cons (pe_fld (pv 0) rfl) pa_nil)) (pa_cons (pe_dn D_inside_counts hr (by decide) rfl (pa_cons (pv 0) pa_nil)) pa_nil)))))), ?_⟩
    have C := cutOk text
    have hcl := cutC_len text
    have hC2 := hC
    obtain ⟨dx, k, qp, tt, rs, fs, ho, f1, f2, f3, f4, f5, f6, f7, hk, R, hq, htt⟩ := hC2
    rw [C.joined] at f6
    have hn4 : n ≤ 400 := by
      obtain ⟨⟨u, hu, rfl⟩, _⟩ := hmax
      obtain ⟨i, hi, e⟩ := List.getElem_of_mem hu
      rw [piF_len] at hi
      have := piF_short C.par i (by omega)
      rw [List.getD_eq_getElem?_getD, List.getElem?_eq_getElem (by rw [piF_len]; omega)] at this
      have h2 : ((piF (cutC text).1)[i]'(by rw [piF_len]; omega)).length ≤ i := this
      rw [e] at h2
      omega
    have hcn := cntsF_len n all
    refine s_ret (v := .int ((betw (brF (piF (cutC text).1)) 0 (text.length : Int) + greedy 1 text.length (cntsF n all) : Nat) : Int)) (ev_op (y := .int ((greedy 1 text.length (cntsF n all) : Nat) : Int)) (ev_call (ea_cons (ev_var rfl) ea_nil) fun H1 e1 Q1 q1 _ => ⟨p, abc, _, _, text, rfl, hC.ex e1, by omega, C.joined, by omega, fun H2 e2 => q1 H2 e2⟩) (ev_fillIns (ev_lenSS (ev_fld (ev_var rfl) ho T.cut T.nCx f6) (by omega)) (ev_var rfl) hC C.par (by omega) hmax hfac hn4) rv_I0) fun H2 e2 => q H2 e2
end
end My

set_option Elab.async false
set_option linter.all false
set_option maxRecDepth 100000
set_option maxHeartbeats 4000000
namespace My
open PySem PySem.Spec PyProof.Rows L2 Evl
open SX (S S_len S_cat S_beq S_beq_eq S_inj S_tl)
theorem q_cutIf2 {σ : L2.St} {H : Hp} {t : L2.TT} {tu tz : TS} {D : Ends} {b : Bool} (M : L2.St → Hp → Prop) (h : EvT t σ H b) (h1 : b = true → ∀ H1, Ex H H1 → tu { D with nx := M } σ H1) (h2 : b = false → ∀ H1, Ex H H1 → M σ H1) (k : ∀ σ' H', M σ' H' → tz D σ' H') : tCut (tIfS t tu tNext) tz D σ H :=
  q_cut (M := M) (s_when (D := { D with nx := M }) h h1 h2) k
theorem cntsF_more {L : Nat} {ws : List (List Nat)} (h : ∀ u ∈ ws, u.length ≤ L) : cntsF (L + 1) ws = cntsF L ws ++ [0] := by
  unfold cntsF
  rw [List.range_succ, List.map_append]
  congr 1
  have : cntL (L + 1) ws = 0 := by
    unfold cntL
    rw [List.length_eq_zero_iff, List.filter_eq_nil_iff]
    intro u hu
    have := h u hu
    simp
    omega
  show [cntL (L + 1) ws] = [0]
  rw [this]
theorem cntsF_cons {n : Nat} {ws : List (List Nat)} {u : List Nat} (h1 : 1 ≤ u.length) (hn : u.length ≤ n) : (cntsF n ws).set (u.length - 1) ((cntsF n ws).getD (u.length - 1) 0 + 1) = cntsF n (u :: ws) := by
  rw [cntsF_step h1 hn]
  unfold cntsF
  exact List.map_congr_left fun k _ => by rw [cntL_snoc, cntL_cons]
theorem sum_le_mul (l : List Nat) (b : Nat) (h : ∀ x ∈ l, x ≤ b) : l.sum ≤ l.length * b := by
  induction l with
  | nil => exact Nat.zero_le _
  | cons a l ih =>
    have := ih fun x hx => h x (List.mem_cons_of_mem _ hx)
    have := h a (List.mem_cons_self ..)
    rw [List.sum_cons, List.length_cons, Nat.add_mul]
    omega
theorem facs_few {rows : List (Nat × Nat)} (hp : ∀ (i : Nat) (r : Nat × Nat), rows[i]? = some r → r.1 ≤ i) {all : List (List Nat)} (h : Facs (piF rows) all) : all.length ≤ ((piF rows).map List.length).sum := by
  have h1 : all.length ≤ ((piF rows).flatMap fun p => (List.range p.length).map fun s => p.drop s).length := by
    refine List.Nodup.length_le_of_subset h.1 ?_
    intro u hu
    obtain ⟨hne, p, hm, i, hi, e⟩ := (h.2 u).mp hu
    have hl : 0 < u.length := List.length_pos_iff.mpr hne
    refine List.mem_flatMap.mpr ⟨p.take (i + u.length), pre_mem hp hm (by omega), List.mem_map.mpr ⟨i, List.mem_range.mpr (by rw [List.length_take]; omega), ?_⟩⟩
    rw [List.drop_take, Nat.add_sub_cancel_left]
    exact e
  refine Nat.le_trans h1 ?_
  rw [List.length_flatMap]
  have e : ((piF rows).map fun p => ((List.range p.length).map fun s => p.drop s).length) = (piF rows).map List.length := by
    apply List.map_congr_left
    intro p _
    rw [List.length_map, List.length_range]
  rw [e]
  exact Nat.le_refl _
def fA (ps : List (List Nat)) (u : List Nat) : Prop := ∃ p ∈ ps, ∃ s l, 1 ≤ l ∧ s + l ≤ p.length ∧ u = (p.drop s).take l
def fB (pc : List Nat) (j : Nat) (u : List Nat) : Prop := ∃ s l, s < j ∧ 1 ≤ l ∧ s + l ≤ pc.length ∧ u = (pc.drop s).take l
def fC (pc : List Nat) (j m : Nat) (u : List Nat) : Prop := ∃ l, 1 ≤ l ∧ l ≤ m ∧ u = (pc.drop j).take l
theorem fB_next {pc : List Nat} {j m : Nat} {u : List Nat} (hm : m = pc.length - j) (hj : j < pc.length) : (fB pc j u ∨ fC pc j m u) ↔ fB pc (j + 1) u := by
  subst hm
  constructor
  · rintro (⟨s, l, a, b, c, d⟩ | ⟨l, a, b, c⟩)
    · exact ⟨s, l, by omega, b, c, d⟩
    · exact ⟨j, l, by omega, a, by omega, c⟩
  · rintro ⟨s, l, a, b, c, d⟩
    by_cases e : s = j
    · subst e; exact Or.inr ⟨l, b, by omega, d⟩
    · exact Or.inl ⟨s, l, by omega, b, c, d⟩
theorem fC_next {pc : List Nat} {j m : Nat} {u : List Nat} : fC pc j (m + 1) u ↔ (fC pc j m u ∨ u = (pc.drop j).take (m + 1)) := by
  constructor
  · rintro ⟨l, a, b, c⟩
    by_cases e : l = m + 1
    · subst e; exact Or.inr c
    · exact Or.inl ⟨l, a, by omega, c⟩
  · rintro (⟨l, a, b, c⟩ | c)
    · exact ⟨l, a, by omega, c⟩
    · exact ⟨m + 1, by omega, Nat.le_refl _, c⟩
theorem fA_next {ps : List (List Nat)} {i : Nat} (hi : i < ps.length) {u : List Nat} : fA (ps.take (i + 1)) u ↔ (fA (ps.take i) u ∨ fB ps[i] ps[i].length u) := by
  rw [List.take_succ_eq_append_getElem hi]
  constructor
  · rintro ⟨p, hp, s, l, a, b, c⟩
    rcases List.mem_append.mp hp with h | h
    · exact Or.inl ⟨p, h, s, l, a, b, c⟩
    · rw [List.mem_singleton.mp h] at b c
      exact Or.inr ⟨s, l, by omega, a, b, c⟩
  · rintro (⟨p, hp, s, l, a, b, c⟩ | ⟨s, l, z, a, b, c⟩)
    · exact ⟨p, List.mem_append_left _ hp, s, l, a, b, c⟩
    · exact ⟨_, List.mem_append_right _ (List.mem_singleton.mpr rfl), s, l, a, b, c⟩
theorem fA_facs {ps all : List (List Nat)} (h : Facs ps all) (u : List Nat) : fA ps u ↔ u ∈ all := by
  rw [h.2 u]
  constructor
  · rintro ⟨p, hp, s, l, a, b, c⟩
    have hl : u.length = l := by rw [c, List.length_take, List.length_drop]; omega
    exact ⟨fun z => by (rw [z] at hl; simp at hl; omega), p, hp, s, by omega, by rw [hl]; exact c.symm⟩
  · rintro ⟨hne, p, hp, i, hi, e⟩
    have hl : 0 < u.length := List.length_pos_iff.mpr hne
    exact ⟨p, hp, i, u.length, by omega, hi, e.symm⟩
/-- what holds of the words and the parts told so far -/
structure InsAt (M : List Nat → Prop) (n : Nat) (ws : List (List Nat)) (L : Nat) : Prop where
  nd : ws.Nodup
  mem : ∀ u, u ∈ ws ↔ M u
  len : ∀ u ∈ ws, 1 ≤ u.length ∧ u.length ≤ L
  most : L ≤ n
theorem InsAt.to {M M2 : List Nat → Prop} {n L : Nat} {ws : List (List Nat)} (h : InsAt M n ws L) (i : ∀ u, M u ↔ M2 u) : InsAt M2 n ws L := ⟨h.nd, fun u => (h.mem u).trans (i u), h.len, h.most⟩
theorem InsAt.few {M : List Nat → Prop} {n L : Nat} {ws all : List (List Nat)} (h : InsAt M n ws L) (i : ∀ u, M u → u ∈ all) : ws.length ≤ all.length := by
  refine List.Nodup.length_le_of_subset h.nd ?_
  intro u hu
  exact i u ((h.mem u).mp hu)
section
variable {P : Program} {w : World} {K : PySem.W.Frag} {mg : Str → Option Value} {base : Heap}
abbrev s_law_inside : Stmt := top 40
abbrev N_law_inside : List Str := ["pieces", "words", "parts", "piece", "start", "stop", "word"]
theorem sc_law_inside : FnScope N_law_inside ["pieces"] (defScope s_law_inside) := ⟨rfl, rfl, rfl, by decide +kernel, rfl, by decide +kernel, by decide +kernel⟩
def spLI (K : PySem.W.Frag) : Sp := fun vs H Q _ => ∃ (pp : Addr) (rows : List (Nat × Nat)) (n : Nat) (all : List (List Nat)), vs = [.ref pp] ∧ SqL K H pp (sV (piF rows)) ∧ (∀ (i : Nat) (r : Nat × Nat), rows[i]? = some r → r.1 ≤ i) ∧ rows.length ≤ 400 ∧ ((piF rows).map List.length).sum ≤ 4000 ∧ IsMax n (piF rows) ∧ Facs (piF rows) all ∧ RetL (nV (cntsF n all)) H Q
theorem ok_law_inside (T : TT mg) (F : At K mg "_law_inside" s_law_inside) : Dn P w K mg base 1 "_law_inside" s_law_inside ["pieces"] (spLI K) := by
  refine dn_ok F sc_law_inside (fun _ _ _ _ _ _ us hl => match us, hl with | [_], _ => rfl) (fun vs H Q E h => ?_) (fun f cdv A outer t H vs Q E hr h => ?_)
  · obtain ⟨pp, rows, n, all, rfl, _⟩ := h; rfl
  · obtain ⟨pp, rows, n, all, rfl, hS, hpar, hl4, hsum, hmax, hfac, q⟩ := h
    refine ⟨_, (pss_cons (ps_set (i := 1) sc_law_inside.nd rfl (Or.inl rfl) pe_dnewK)
      (pss_cons (ps_set (i := 2) sc_law_inside.nd rfl (Or.inl rfl) (pe_lst pa_nil))
      (pss_cons (ps_for PassesOwn.never rfl (pi_list (pv 0)) (pg_name (i := 3) sc_law_inside.nd rfl (Or.inl rfl))
        (pss_one (ps_for PassesOwn.never rfl (pi_range1 (by rfl) T.range (pa_cons (pe_callB call_len_str (by rfl) T.len boot_len (pa_cons (pv 3) pa_nil)) pa_nil)) (pg_name (i := 4) sc_law_inside.nd rfl (Or.inl rfl))
            (pss_one (ps_for PassesOwn.never rfl (pi_range2 (by rfl) T.range (pa_cons (pe_op op_add (pv 4) pe_int) (pa_cons (pe_op op_add (pe_callB call_len_str (by rfl) T.len boot_len (pa_cons (pv 3) pa_nil)) pe_int) pa_nil))) (pg_name (i := 5) sc_law_inside.nd rfl (Or.inl rfl))
                (pss_cons (ps_set (i := 6) sc_law_inside.nd rfl (Or.inl rfl) (pe_slice sl_str (pv 3) (po_some (pv 4)) (po_some (pv 5))))
                  (pss_cut (ps_if (pt_cmpR op_gt (pe_callB call_len_str (by rfl) T.len boot_len (pa_cons (pv 6) pa_nil)) (pe_callB call_len_seq (by rfl) T.len boot_len (pa_cons (pv 2) pa_nil)) (nomark _)) (pss_one (ps_expr (pe_bm PySem.F.plainAttrs_list PySem.F.slot_list_append PySem.F.type_list_append mt_append (pv 2) (pa_cons pe_int pa_nil)))) pss_nil)
                  (pss_one (ps_if (pt_cmp (pc_dnotin (hu_of hr) (pv 6) (pv 1))) (pss_cons (ps_dput (hu_of hr) (pv 1) (pv 6) pe_bl rfl)
                    (pss_one (ps_asg (pe_op op_add (pe_ix ix_list (pv 2) (pe_op op_sub (pe_callB call_len_str (by rfl) T.len boot_len (pa_cons (pv 6) pa_nil)) pe_int) (fun _ _ => rfl)) pe_int) (pg_sub (pv 2) (pe_op op_sub (pe_callB call_len_str (by rfl) T.len boot_len (pa_cons (pv 6) pa_nil)) pe_int) set_list)))) pss_nil)))))))))
      (pss_one (ps_ret (pv 2)))))), ?_⟩
    have hlen := piF_len rows
    have hshort : ∀ u ∈ piF rows, u.length ≤ 400 := fun u hu => by
      obtain ⟨i, hi, e⟩ := List.getElem_of_mem hu
      rw [hlen] at hi
      have := piF_short hpar i (by omega)
      rw [List.getD_eq_getElem?_getD, List.getElem?_eq_getElem (by omega)] at this
      have h2 : ((piF rows)[i]'(by omega)).length ≤ i := this
      rw [e] at h2
      omega
    have hfew := facs_few hpar hfac
    have hn4 : n ≤ 400 := by obtain ⟨⟨u, hu, rfl⟩, _⟩ := hmax; exact hshort u hu
    have hsl : (sV (piF rows)).length = (piF rows).length := List.length_map _
    have hAll : ∀ i u, fA ((piF rows).take i) u → u ∈ all := fun i u ⟨p, hp, r⟩ => (fA_facs hfac u).mp ⟨p, List.mem_of_mem_take hp, r⟩
    refine q_dnew fun d H1 nd hd e1 => ?_
    refine q_asgL (xs := nV (cntsF 0 [])) (el_lst ea_nil (by decide)) fun l H2 nl e2 hl2 => ?_
    have nl0 := fresh_back e1 nl
    have ndl : d ≠ l := fun z => by
      obtain ⟨kv, h, _⟩ := hd
      rw [z, nl] at h
      cases h
    refine q_forL (K := K) (ev_var rfl) (ex_l (e1.trans e2) hS) (fun i σ' H' => ∃ (ws : List (List Nat)) (L : Nat) (x y z v : Option V), σ' = [some (.ref pp), some (.ref d), some (.ref l), x, y, z, v] ∧ Ex H H' ∧ DW H' d ws ∧ H' l = some (.lst (nV (cntsF L ws))) ∧ InsAt (fA ((piF rows).take i)) n ws L ∧ ∀ p ∈ (piF rows).take i, p.length ≤ L)
      (fun H3 e3 => ⟨[], 0, none, none, none, none, rfl, (e1.trans e2).trans e3, (hd.ex e2).ex e3, e3 _ _ hl2, ⟨List.nodup_nil, fun u => ⟨fun h => absurd h List.not_mem_nil, fun ⟨p, h, _⟩ => absurd h List.not_mem_nil⟩, fun u h => absurd h List.not_mem_nil, Nat.zero_le _⟩, fun p h => absurd h List.not_mem_nil⟩) (fun i σ' H' _ ⟨_, _, _, _, _, _, _, e, _⟩ => ex_l e hS) ?_ ?_
    · rintro i x σ' H' hx ⟨ws, L, x1, y1, z1, v1, rfl, e, hdw, hpl, IA, hlo⟩
      have hi : i < (piF rows).length := by have := (List.getElem?_eq_some_iff.mp hx).1; omega
      rw [List.getElem?_map, List.getElem?_eq_getElem hi] at hx
      have hxe := Option.some.inj hx
      subst hxe
      have hpc4 := hshort _ (List.getElem_mem hi)
      have hpcn := hmax.2 _ (List.getElem_mem hi)
      have hall2 := hAll (i + 1)
      have hnext := fun u => fA_next (ps := piF rows) hi (u := u)
      have hlow : ∀ L2, (∀ p ∈ (piF rows).take i, p.length ≤ L2) → (piF rows)[i].length ≤ L2 → ∀ p ∈ (piF rows).take (i + 1), p.length ≤ L2 := fun L2 h1 h2 p hp => by
        rw [List.take_succ_eq_append_getElem hi] at hp
        rcases List.mem_append.mp hp with h | h
        · exact h1 p h
        · rw [List.mem_singleton.mp h]; exact h2
      show tFor _ _ _ _ [some (V.ref pp), some (V.ref d), some (V.ref l), some (V.str (S (piF rows)[i])), y1, z1, v1] H'
      generalize (piF rows)[i] = pc at hpc4 hpcn hnext hlow
      have hin : ∀ j m u, fA ((piF rows).take i) u ∨ fB pc j u ∨ fC pc j m u → j + m ≤ pc.length → j ≤ pc.length → u ∈ all := fun j m u h h1 h3 => hall2 u ((hnext u).mpr (h.elim Or.inl fun h => Or.inr (h.elim (fun ⟨s, l, a, b, c, d⟩ => ⟨s, l, by omega, b, c, d⟩) fun ⟨l, a, b, c⟩ => ⟨j, l, by omega, a, by omega, c⟩)))
      refine s_forR1 (ea_cons (ev_lenSS (ev_var rfl) (by omega)) ea_nil) ⟨by omega, by omega⟩ (fun j σ2 H2 => ∃ (ws : List (List Nat)) (L : Nat) (y z v : Option V), σ2 = [some (.ref pp), some (.ref d), some (.ref l), some (.str (S pc)), y, z, v] ∧ Ex H H2 ∧ DW H2 d ws ∧ H2 l = some (.lst (nV (cntsF L ws))) ∧ InsAt (fun u => fA ((piF rows).take i) u ∨ fB pc j u) n ws L ∧ (∀ p ∈ (piF rows).take i, p.length ≤ L) ∧ (0 < j → pc.length ≤ L))
        (fun H3 e3 => ⟨ws, L, y1, z1, v1, rfl, e.trans e3, hdw.ex e3, e3 _ _ hpl, IA.to fun u => ⟨Or.inl, fun h => h.elim id fun ⟨s, _, h, _⟩ => absurd h (Nat.not_lt_zero s)⟩, hlo, fun h => absurd h (Nat.lt_irrefl 0)⟩) ?_ ?_
      · rintro j σ2 H2 hj0 ⟨ws2, L2, y2, z2, v2, rfl, e2', hdw2, hpl2, IA2, hlo2, hL2⟩
        have hj : j < pc.length := by omega
        refine s_forR2 (ea_cons (ev_op (ev_var rfl) ev_c rv_I0) (ea_cons (ev_op (ev_lenSS (ev_var rfl) (by omega)) ev_c rv_I0) ea_nil)) ⟨by omega, by omega, by omega, by omega⟩ (fun m σ3 H3 => ∃ (ws : List (List Nat)) (L : Nat) (z v : Option V), σ3 = [some (.ref pp), some (.ref d), some (.ref l), some (.str (S pc)), some (.int (j : Int)), z, v] ∧ Ex H H3 ∧ DW H3 d ws ∧ H3 l = some (.lst (nV (cntsF L ws))) ∧ InsAt (fun u => fA ((piF rows).take i) u ∨ fB pc j u ∨ fC pc j m u) n ws L ∧ (∀ p ∈ (piF rows).take i, p.length ≤ L) ∧ (0 < j → pc.length ≤ L) ∧ m ≤ L)
          (fun H3 e3 => ⟨ws2, L2, z2, v2, rfl, e2'.trans e3, hdw2.ex e3, e3 _ _ hpl2, IA2.to fun u => ⟨fun h => h.elim Or.inl fun h => Or.inr (Or.inl h), fun h => h.elim Or.inl fun h => h.elim Or.inr fun ⟨l, a, b, _⟩ => absurd a (by omega)⟩, hlo2, hL2, Nat.zero_le _⟩) ?_ ?_
        · rintro m σ3 H3 hm0 ⟨ws3, L3, z3, v3, rfl, e3', hdw3, hpl3, IA3, hlo3, hL3, hmL⟩
          have hm : j + m + 1 ≤ pc.length := by omega
          have hwl : ((pc.drop j).take (m + 1)).length = m + 1 := by rw [List.length_take, List.length_drop]; omega
          refine q_asg (v := .str (S ((pc.drop j).take (m + 1)))) (by
            have := ev_slS (σ := [some (V.ref pp), some (V.ref d), some (V.ref l), some (V.str (S pc)), some (V.int (j : Int)), some (V.int ((j : Int) + 1 + (m : Int))), v3]) (H := H3) (te := tVar 3) (tl := tPart (tVar 4)) (th := tPart (tVar 5)) (l := pc) (lo := some (j : Int)) (hi := some ((j : Int) + 1 + (m : Int))) (ev_var rfl) (eo_some (ev_var rfl)) (eo_some (ev_var rfl)) (by omega)
            rw [cutL_mid (by omega) (by omega)] at this
            have e1 : ((j : Int) + 1 + (m : Int)).toNat - (j : Int).toNat = m + 1 := by omega
            rw [e1, Int.toNat_natCast] at this
            exact this) fun H4 e4 => ?_
          generalize hwd : (pc.drop j).take (m + 1) = wd at hwl
          have hcl : (nV (cntsF L3 ws3)).length = L3 := by rw [nV_len, cntsF_len]
          refine q_cutIf2 (fun σ5 H5 => ∃ L : Nat, σ5 = [some (.ref pp), some (.ref d), some (.ref l), some (.str (S pc)), some (.int (j : Int)), some (.int ((j : Int) + 1 + (m : Int))), some (.str (S wd))] ∧ Ex H H5 ∧ DW H5 d ws3 ∧ H5 l = some (.lst (nV (cntsF L ws3))) ∧ InsAt (fun u => fA ((piF rows).take i) u ∨ fB pc j u ∨ fC pc j m u) n ws3 L ∧ L3 ≤ L ∧ m + 1 ≤ L)
            (et_test (ev_op (ev_lenSS (ev_var rfl) (by omega)) (ev_len (K := K) (ev_var rfl) (sq_of (e4 _ _ hpl3))) rv_I0)) (fun hb H5 e5 => ?_) (fun hb H5 e5 => ?_) ?_
          · have hlt : L3 < m + 1 := by
              have := of_decide_eq_true hb
              omega
            refine s_app (e5 _ _ (e4 _ _ hpl3)) (ev_var rfl) ev_c (by rw [hcl]; omega) fun H6 e6 => ⟨L3 + 1, rfl, Ex.mut (((e3'.trans e4).trans e5).trans e6) nl0, ?_, ?_, ⟨IA3.nd, IA3.mem, fun u hu => by have := IA3.len u hu; omega, by omega⟩, by omega, by omega⟩
            · obtain ⟨kv, h, r⟩ := ((hdw3.ex e4).ex e5).ex e6
              exact ⟨kv, upd_Ne h ndl, r⟩
            · rw [upd_same, cntsF_more fun u hu => (IA3.len u hu).2]
              show _ = some (HO.lst (List.map _ (_ ++ [0])))
              rw [List.map_append]
              rfl
          · have hge : m + 1 ≤ L3 := by
              have := of_decide_eq_false hb
              omega
            exact ⟨L3, rfl, (e3'.trans e4).trans e5, (hdw3.ex e4).ex e5, e5 _ _ (e4 _ _ hpl3), IA3, Nat.le_refl _, hge⟩
          · rintro σ5 H5 ⟨L5, rfl, e5, hdw5, hpl5, IA5, h35, hm5⟩
            have hfw : ws3.length ≤ 4000 := Nat.le_trans (IA5.few fun u hu => hin j m u hu (by omega) (by omega)) (by omega)
            have hM : ∀ u, (fA ((piF rows).take i) u ∨ fB pc j u ∨ fC pc j (m + 1) u) ↔ ((fA ((piF rows).take i) u ∨ fB pc j u ∨ fC pc j m u) ∨ u = wd) := fun u => by
              rw [fC_next, hwd]
              constructor
              · rintro (h | h | h | h)
                · exact Or.inl (Or.inl h)
                · exact Or.inl (Or.inr (Or.inl h))
                · exact Or.inl (Or.inr (Or.inr h))
                · exact Or.inr h
              · rintro ((h | h | h) | h)
                · exact Or.inl h
                · exact Or.inr (Or.inl h)
                · exact Or.inr (Or.inr (Or.inl h))
                · exact Or.inr (Or.inr (Or.inr h))
            refine s_when (et_B (ev_dni (w := wd) (ev_var rfl) (ev_var rfl) hdw5)) (fun hb H6 e6 => ?_) (fun hb H6 e6 => ?_)
            · have hnw : wd ∉ ws3 := by simpa using hb
              refine q_dput (w := wd) ev_c (ev_var rfl) (ev_var rfl) (hdw5.ex e6) (by omega) fun H7 e7 kvs hdw7 => ?_
              have hpl7 : (upd H7 d (.dK kvs)) l = some (.lst (nV (cntsF L5 ws3))) := upd_Ne (e7 _ _ (e6 _ _ hpl5)) ndl.symm
              have e57 : Ex H (upd H7 d (.dK kvs)) := Ex.mut ((e5.trans e6).trans e7) (fresh_back (Ex.refl H) nd)
              generalize upd H7 d (.dK kvs) = H8 at hdw7 hpl7 e57 ⊢
              have hk : wd.length - 1 < (cntsF L5 ws3).length := by rw [cntsF_len]; omega
              refine s_setL (j := wd.length - 1) (v := .int (((cntsF L5 ws3).getD (wd.length - 1) 0 + 1 : Nat) : Int)) hpl7 (ev_op (ev_op (ev_var rfl) (ev_is (ev_op (ev_lenSS (ev_var rfl) (by omega)) ev_c rv_I0) (show V.int ((wd.length : Int) - 1) = V.int ((wd.length - 1 : Nat) : Int) by congr 1; omega)) (rv_ixL (K := K) (sq_of hpl7) (at_nV hk))) ev_c rv_I0) (ev_var rfl) (ev_is (ev_op (ev_lenSS (ev_var rfl) (by omega)) ev_c rv_I0) (show V.int ((wd.length : Int) - 1) = V.int ((wd.length - 1 : Nat) : Int) by congr 1; omega)) (by rw [nV_len]; exact hk) fun H9 e9 => ?_
              refine ⟨wd :: ws3, L5, _, _, rfl, Ex.mut (e57.trans e9) nl0, ?_, ?_, ⟨List.nodup_cons.mpr ⟨hnw, IA5.nd⟩, fun u => ?_, fun u hu => ?_, IA5.most⟩, fun p hp => Nat.le_trans (hlo3 p hp) h35, fun c => Nat.le_trans (hL3 c) h35, hm5⟩
              · obtain ⟨kv, h, r⟩ := hdw7.ex e9
                exact ⟨kv, upd_Ne h ndl, r⟩
              · rw [upd_same, ← cntsF_cons (by omega) (by omega)]
                show some (HO.lst ((List.map _ _).set _ _)) = some (HO.lst (List.map _ _))
                rw [← List.map_set]
              · rw [hM u, List.mem_cons, IA5.mem u]
                exact ⟨fun h => h.symm, fun h => h.symm⟩
              · rcases List.mem_cons.mp hu with rfl | hu
                · omega
                · exact IA5.len u hu
            · have hin2 : wd ∈ ws3 := by simpa using hb
              exact ⟨ws3, L5, _, _, rfl, e5.trans e6, hdw5.ex e6, e6 _ _ hpl5, IA5.to fun u => ⟨fun h => (hM u).mpr (Or.inl h), fun h => ((hM u).mp h).elim id fun h => by rw [h]; exact (IA5.mem wd).mp hin2⟩, fun p hp => Nat.le_trans (hlo3 p hp) h35, fun c => Nat.le_trans (hL3 c) h35, hm5⟩
        · rintro σ3 H3 ⟨ws3, L3, z3, v3, rfl, e3', hdw3, hpl3, IA3, hlo3, hL3, hmL⟩
          have e9 : (((pc.length : Int) + 1) - ((j : Int) + 1)).toNat = pc.length - j := by omega
          rw [e9] at IA3 hmL
          refine ⟨ws3, L3, _, _, _, rfl, e3', hdw3, hpl3, IA3.to fun u => ⟨fun h => h.elim Or.inl fun h => Or.inr ((fB_next rfl hj).mp h), fun h => h.elim Or.inl fun h => Or.inr ((fB_next rfl hj).mpr h)⟩, hlo3, fun _ => ?_⟩
          by_cases c : 0 < j
          · exact hL3 c
          · omega
      · rintro σ2 H2 ⟨ws2, L2, y2, z2, v2, rfl, e2', hdw2, hpl2, IA2, hlo2, hL2⟩
        have e9 : ((pc.length : Int)).toNat = pc.length := Int.toNat_natCast _
        rw [e9] at IA2 hL2
        exact ⟨ws2, L2, _, _, _, _, rfl, e2', hdw2, hpl2, IA2.to fun u => (hnext u).symm, hlow L2 hlo2 (by
          by_cases c : 0 < pc.length
          · exact hL2 c
          · omega)⟩
    · rintro σ' H' ⟨ws, L, x1, y1, z1, v1, rfl, e, hdw, hpl, IA, hlo⟩
      rw [hsl, List.take_length] at IA hlo
      have hL : L = n := by
        obtain ⟨⟨u, hu, hun⟩, _⟩ := hmax
        have := hlo u hu
        have := IA.most
        omega
      subst hL
      have hcn : cntsF L all = cntsF L ws := by
        unfold cntsF
        exact List.map_congr_left fun k _ => cntL_same hfac.1 IA.nd (fun u => ((fA_facs hfac u).symm.trans (IA.mem u).symm)) (k + 1)
      rw [hcn] at q
      exact s_ret (ev_var rfl) fun H3 e3 => q l H3 nl0 (e.trans e3) (e3 _ _ hpl)
end
end My

set_option Elab.async false
set_option linter.all false
set_option maxRecDepth 100000
set_option maxHeartbeats 4000000
namespace My
open PySem PySem.Spec PyProof.Rows L2 Evl
open SX (S S_len S_cat S_beq S_beq_eq S_inj S_tl)
def rowD (rows : List (Nat × Nat)) : PyData := .tuple (rows.map fun r => .tuple [.int (r.1 : Int), .str (S [r.2])])
def Lets (rows : List (Nat × Nat)) : Prop := ∀ r ∈ rows, r.2 ∈ L36c
theorem let_ok : ∀ c ∈ L36c, PyData.canLay0 (.str (S [c])) = true := by decide +kernel
theorem un64 {k : Nat} {A : Around} (r : Room k A) : A.units + 64 < cLine := by have := r.un; omega
theorem canLay_rows {rows : List (Nat × Nat)} (hL : Lets rows) : PyData.canLay0 (rowD rows) = true := by
  show PyData.canLayAll0 (rows.map fun r => .tuple [.int (r.1 : Int), .str (S [r.2])]) = true
  induction rows with
  | nil => rfl
  | cons q r ih =>
    have h1 : PyData.canLay0 (.str (S [q.2])) = true := let_ok _ (hL q (List.mem_cons_self ..))
    show (PyData.canLay0 (PyData.tuple [.int (q.1 : Int), .str (S [q.2])]) && PyData.canLayAll0 (r.map fun r => .tuple [.int (r.1 : Int), .str (S [r.2])])) = true
    rw [ih fun x hx => hL x (List.mem_cons_of_mem _ hx), Bool.and_true]
    show (true && (PyData.canLay0 (.str (S [q.2])) && true)) = true
    rw [h1]
    rfl
theorem depth_rows (rows : List (Nat × Nat)) : PyData.depth (rowD rows) ≤ 64 := by
  have : PyData.depthAll (rows.map fun r => .tuple [.int (r.1 : Int), .str (S [r.2])]) ≤ 10 := by
    induction rows with
    | nil => decide
    | cons q r ih =>
      simp only [List.map_cons, PyData.depthAll, PyData.depth] at ih ⊢
      omega
  unfold rowD
  simp only [PyData.depth]
  omega
theorem shaped_rows {rows : List (Nat × Nat)} (hL : Lets rows) : SeqAt.shaped (rowD rows) = true := by
  unfold SeqAt.shaped
  rw [canLay_rows hL, decide_eq_true (depth_rows rows)]
  rfl
section
variable {K : PySem.W.Frag} {σ : L2.St} {H : Hp} {ta tb te tv td ty : TE} {v : V} {D : Ends} {tu tz : TS}
theorem rows_dp : ∀ {rs : List Addr} {rows : List (Nat × Nat)}, RowsAt H rs rows → DpAll K H (rV rs) (rows.map fun r => .tuple [.int (r.1 : Int), .str (S [r.2])])
  | [], [], _ => DpAll.nil
  | a :: rs, r :: rows, h => DpAll.cons (Dp.tup (st_of h.1) (DpAll.cons (Dp.int _) (DpAll.cons (Dp.str _) DpAll.nil))) (rows_dp h.2)
theorem tup_dp {p : Addr} {rs : List Addr} {rows : List (Nat × Nat)} (h : H p = some (.tup (rV rs))) (R : RowsAt H rs rows) : Dp K H (.ref p) (rowD rows) := Dp.tup (st_of h) (rows_dp R)
def EvRw (te : TE) (σ : L2.St) (H : Hp) (rows : List (Nat × Nat)) : Prop := ∀ H1, Ex H H1 → ∀ Q : VK, (∀ p rs H2, Ex H1 H2 → H2 p = some (.tup (rV rs)) → RowsAt H2 rs rows → Q (.ref p) H2) → te σ H1 Q
theorem RowsAt.take {rs : List Addr} {rows : List (Nat × Nat)} : ∀ {m : Nat}, RowsAt H rs rows → RowsAt H (rs.take m) (rows.take m) := by
  intro m
  induction m generalizing rs rows with
  | zero => intro _; trivial
  | succ m ih =>
    intro h
    match rs, rows, h with
    | [], [], _ => trivial
    | a :: rs, r :: rows, h => exact ⟨h.1, ih h.2⟩
theorem ew_slA {k : Addr} {rs : List Addr} {rows : List (Nat × Nat)} {m : Nat} (h : Ev ta σ H (.ref k)) (hm : Ev tb σ H (.int (m : Int))) (hk : H k = some (.tup (rV rs))) (R : RowsAt H rs rows) : EvRw (tSl (rSlA K) ta tNoPart (tPart tb)) σ H (rows.take m) := fun H0 e0 Q q =>
  h H0 e0 _ fun H1 e1 => eo_none (σ := σ) (H := H) H1 (e0.trans e1) _ fun H2 e2 => eo_some hm H2 ((e0.trans e1).trans e2) _ fun H3 e3 => by
    have e03 := ((e0.trans e1).trans e2).trans e3
    have hc : cutV (rV rs) none (some (m : Int)) = rV (rs.take m) := by
      have e : rV rs = rs.map V.ref := rfl
      rw [e, cutV_L, cutL_map, cutL_to (by omega), Int.toNat_natCast]
    refine ⟨k, rV rs, rfl, st_of (e03 _ _ hk), fun hw => ?_, fun _ p hp => q p (rs.take m) _ (((e1.trans e2).trans e3).trans (Ex.new hp)) (by rw [upd_same, hc]) ((R.take).ex (e03.trans (Ex.new hp)))⟩
    have hl : (rV rs).length = rs.length := List.length_map _
    have hml : rs.length ≤ m := by
      have := hw.2
      unfold HT.sIx at this
      simp only [hl] at this
      split at this <;> omega
    have e1' : rs.take m = rs := List.take_of_length_le hml
    have e2' : rows.take m = rows := List.take_of_length_le (by rw [← R.len]; exact hml)
    exact q k rs H3 ((e1.trans e2).trans e3) (e03 _ _ hk) (by rw [e2']; exact R.ex e03)
theorem ev_eqRows {A B : List (Nat × Nat)} {rs : List Addr} {p : Addr} (ha : Ev ta σ H (.ref p)) (hp : H p = some (.tup (rV rs))) (R : RowsAt H rs A) (hb : EvRw tb σ H B) (hA : Lets A) (hB : Lets B) : Ev (tOp (rEqD K) ta tb) σ H (.bl (PyData.eqv (rowD A) (rowD B))) := fun H0 e0 Q q =>
  ha H0 e0 _ fun H1 e1 => hb H1 (e0.trans e1) _ fun p2 rs2 H2 e2 h2 R2 => ⟨rowD A, rowD B, tup_dp (((e0.trans e1).trans e2) _ _ hp) (R.ex ((e0.trans e1).trans e2)), tup_dp h2 R2, shaped_rows hA, shaped_rows hB, q H2 (e1.trans e2)⟩
end
theorem ev_neRows {K : PySem.W.Frag} {σ : L2.St} {H : Hp} {ta tb : TE} {A B : List (Nat × Nat)} {rs : List Addr} {p : Addr} (ha : Ev ta σ H (.ref p)) (hp : H p = some (.tup (rV rs))) (R : RowsAt H rs A) (hb : EvRw tb σ H B) (hA : Lets A) (hB : Lets B) : Ev (tOp (rNeD K) ta tb) σ H (.bl (!PyData.eqv (rowD A) (rowD B))) := fun H0 e0 Q q =>
  ha H0 e0 _ fun H1 e1 => hb H1 (e0.trans e1) _ fun p2 rs2 H2 e2 h2 R2 => ⟨rowD A, rowD B, tup_dp (((e0.trans e1).trans e2) _ _ hp) (R.ex ((e0.trans e1).trans e2)), tup_dp h2 R2, shaped_rows hA, shaped_rows hB, q H2 (e1.trans e2)⟩
theorem eqv_rows {A : List (Nat × Nat)} (h : Lets A) : PyData.eqv (rowD A) (rowD A) = true := SeqAt.eqv_refl _ (canLay_rows h)
theorem cut_lets {text abc : List Nat} (hA : AbcOk abc) (hs : ∀ c ∈ text, c ∈ abc) : Lets (cutC text).1 := fun r hr => by
  obtain ⟨i, hi, e⟩ := List.getElem_of_mem hr
  exact hA.2.2.1 _ (hs _ ((cutOk text).let_ i r (by rw [List.getElem?_eq_getElem hi, e])))
section
variable {P : Program} {w : World} {K : PySem.W.Frag} {mg : Str → Option Value} {base : Heap}
variable {CG CC : Addr}
abbrev s_are_unlike : Stmt := top 2
abbrev N_are_unlike : List Str := ["text", "stretches", "known", "least", "start", "end", "word"]
theorem sc_are_unlike : FnScope N_are_unlike ["text", "stretches"] (defScope s_are_unlike) := ⟨rfl, rfl, rfl, by decide +kernel, rfl, by decide +kernel, by decide +kernel⟩
def spUn : Sp := fun vs H Q _ => ∃ (line : List Nat) (p : Addr) (row : Parts), vs = [.str (S line), .ref p] ∧ line.length ≤ 100000 ∧ row.length ≤ 10000 ∧ RowT H p row ∧ RetV (.bl (goodF line row)) H Q
theorem ok_are_unlike (T : TT mg) (F : At K mg "are_unlike" s_are_unlike) : Dn P w K mg base 1 "are_unlike" s_are_unlike ["text", "stretches"] spUn := by
  refine dn_ok F sc_are_unlike (fun _ _ _ _ _ _ us hl => match us, hl with | [_, _], _ => rfl) (fun vs H Q E h => ?_) (fun f cdv A outer t H vs Q E hr h => ?_)
  · obtain ⟨line, p, row, rfl, _⟩ := h; rfl
  · obtain ⟨line, p, row, rfl, hz, hrw, hR, q⟩ := h
    obtain ⟨ps, hp, hpl, hps⟩ := hR
    · refine ⟨_, (pss_cons (ps_set (i := 2) sc_are_unlike.nd rfl (Or.inl rfl) pe_dnewK)
      (pss_cons (ps_set (i := 3) sc_are_unlike.nd rfl (Or.inl rfl) pe_int)
      (pss_cons (ps_for PassesOwn.never rfl (pi_list (pv 1)) (pg_tup rfl (pgs_cons (pg_name (i := 4) sc_are_unlike.nd rfl (Or.inl rfl)) (pgs_cons (pg_name (i := 5) sc_are_unlike.nd rfl (Or.inl rfl)) pgs_nil)))
        (pss_cons (ps_if (pt_not (pt_chain3 op_le op_lt op_le (pv 3) (pv 4) (pv 5) (pe_callB call_len_str (by rfl) T.len boot_len (pa_cons (pv 0) pa_nil)))) (pss_one (ps_ret pe_bl)) pss_nil)
          (pss_cons (ps_set (i := 6) sc_are_unlike.nd rfl (Or.inl rfl) (pe_slice sl_str (pv 0) (po_some (pv 4)) (po_some (pv 5))))
          (pss_cons (ps_if (pt_cmp (pc_din (hu_of hr) (pv 6) (pv 2))) (pss_one (ps_ret pe_bl)) pss_nil)
          (pss_cons (ps_dput (hu_of hr) (pv 2) (pv 6) pe_bl rfl)
          (pss_one (ps_set (i := 3) sc_are_unlike.nd rfl (Or.inl rfl) (pv 5))))))))
      (pss_one (ps_ret pe_bl))))), ?_⟩
      refine q_dnew fun d H1 nd hd e1 => ?_
      refine q_asg ev_c fun H2 e2 => ?_
      refine q_forL (K := K) (ev_var rfl) (sq_of (e2 _ _ (e1 _ _ hp))) (fun i σ' H' => ∃ (le : Int) (ws : List (List Nat)) (x y z : Option V), σ' = [some (.str (S line)), some (.ref p), some (.ref d), some (.int le), x, y, z] ∧ Ex H H' ∧ DW H' d ws ∧ stF line (row.take i) = some (le, ws) ∧ ws.length ≤ i)
        (fun H3 e3 => ⟨0, [], none, none, none, rfl, (e1.trans e2).trans e3, (hd.ex e2).ex e3, rfl, Nat.le_refl _⟩) (fun i σ' H' _ ⟨_, _, _, _, _, _, e, _⟩ => sq_of (e _ _ hp)) ?_ ?_
      · rintro i x σ' H' hx ⟨le, ws, x1, y1, z1, rfl, e, hdw, hst, hws⟩
        obtain ⟨rfl, hi0⟩ := ref_at hx
        have hi : i < row.length := by omega
        have hpi := e _ _ (hps i hi)
        refine ⟨_, _, rfl, st_of hpi, rfl, ?_⟩
        have hnx := stF_take (line := line) hi
        rw [hst] at hnx
        revert hpi hnx
        generalize row.getD i (0, 0) = pt
        intro hpi hnx
        obtain ⟨a, b⟩ := pt
        refine ⟨_, _, rfl, ⟨_, _, rfl, ⟨rfl, ?_⟩⟩⟩
        show tSeq _ _ _ [some (V.str (S line)), some (V.ref p), some (V.ref d), some (V.int le), some (V.int a), some (V.int b), z1] H'
        refine q_when (et_not (et_chain3 (ev_var rfl) (ev_var rfl) (ev_var rfl) (ev_lenSS (ev_var rfl) (by omega)) rv_I0 rv_I0 rv_I0)) (fun hb H3 e3 => ?_) (fun hb H3 e3 => ?_)
        · refine s_ret ev_c fun H4 e4 => ?_
          rw [stP_no1 (by
            rintro ⟨c1, c2, c3⟩
            have c1' : le ≤ a := c1
            have c2' : a < b := c2
            have c3' : b ≤ (line.length : Int) := c3
            simp [c1', c2', c3'] at hb)] at hnx
          rw [bad_take hnx] at q
          exact q H4 ((e.trans e3).trans e4)
        have hok : le ≤ a ∧ a < b ∧ b ≤ (line.length : Int) := by
          have := hb
          simp only [Bool.not_eq_false', Bool.and_eq_true, decide_eq_true_eq] at this
          exact this
        refine q_asg (ev_slS (ev_var rfl) (eo_some (ev_var rfl)) (eo_some (ev_var rfl)) (by omega)) fun H4 e4 => ?_
        have e34 := e3.trans e4
        refine q_when (et_B (ev_din (w := seg line (a, b)) (ev_var rfl) (ev_var rfl) (hdw.ex e34))) (fun hb2 H5 e5 => ?_) (fun hb2 H5 e5 => ?_)
        · refine s_ret ev_c fun H6 e6 => ?_
          rw [stP_no2 (of_decide_eq_true hb2)] at hnx
          rw [bad_take hnx] at q
          exact q H6 (((e.trans e34).trans e5).trans e6)
        rw [stP_yes hok (of_decide_eq_false hb2)] at hnx
        refine q_dput (w := seg line (a, b)) ev_c (ev_var rfl) (ev_var rfl) ((hdw.ex e34).ex e5) (by omega) fun H6 e6 kvs hdw2 => ?_
        refine s_asg (ev_var rfl) fun H7 e7 => ⟨b, _, _, _, _, rfl, (Ex.mut (((e.trans e34).trans e5).trans e6) nd).trans e7, hdw2.ex e7, hnx, Nat.succ_le_succ hws⟩
      · rintro σ' H' ⟨le, ws, x1, y1, z1, rfl, e, hdw, hst, hws⟩
        have hln : (ps.map V.ref).length = row.length := by rw [List.length_map, hpl]
        rw [hln] at hst
        rw [good_end hst] at q
        exact s_ret ev_c fun H3 e3 => q H3 (e.trans e3)
abbrev s_law_within : Stmt := top 43
abbrev N_law_within : List Str := ["abc", "shorter", "most", "made"]
theorem sc_law_within : FnScope N_law_within ["abc", "shorter", "most"] (defScope s_law_within) := ⟨rfl, rfl, rfl, by decide +kernel, rfl, by decide +kernel, by decide +kernel⟩
theorem ev_cutMany {K : PySem.W.Frag} {σ : L2.St} {H : Hp} {ta : TE} {E : XK} {text : List Nat} (ha : Ev ta σ H (.str (S text))) (hz : text.length ≤ 4000) : Ev (tCB (rLenS K) (tCons (tOp (rIxL K) (tCall spLC [] E (tCons ta tNil)) (tC (.int 0))) tNil)) σ H (.int ((cutC text).1.length : Int)) := fun H0 e0 Q q =>
  ha H0 e0 _ fun H1 e1 => ⟨text, rfl, hz, fun p k pl rs H2 np e2 hp hk hR hpl => (rv_ixL (K := K) (H := H2) (sq_of hp) rfl) H2 (Ex.refl H2) _ fun H3 e3 => ⟨k, _, rfl, Or.inr (st_of (e3 _ _ hk)), by
    have : (rV rs).length = (cutC text).1.length := by rw [List.length_map]; exact hR.len
    rw [this]
    exact q H3 ((e1.trans e2).trans e3)⟩⟩
def spWi : Sp := fun vs H Q _ => ∃ (abc shorter : List Nat) (most : Nat), vs = [.str (S abc), .str (S shorter), .int (most : Int)] ∧ AbcOk abc ∧ (∀ c ∈ shorter, c ∈ abc) ∧ shorter.length ≤ 400 ∧ (cutC shorter).1.length ≤ most ∧ RetV (.bl true) H Q
theorem ok_law_within (D_cut_of : Dn P w K mg base 5 "cut_of" s_cut_of ["alphabet", "text"] (spCutOf CC)) (D_law_whole : Dn P w K mg base 1 "_law_whole" s_law_whole ["value"] spWhole) (D_law_cut : Dn P w K mg base 1 "_law_cut" s_law_cut ["text"] spLC) (T : TC K mg CG CC) (F : At K mg "_law_within" s_law_within) : Dn P w K mg base 6 "_law_within" s_law_within ["abc", "shorter", "most"] spWi := by
  refine dn_ok F sc_law_within (fun _ _ _ _ _ _ us hl => match us, hl with | [_, _, _], _ => rfl) (fun vs H Q E h => ?_) (fun f cdv A outer t H vs Q E hr h => ?_)
  · obtain ⟨abc, shorter, most, rfl, _⟩ := h; rfl
  · obtain ⟨abc, shorter, most, rfl, hA, hs, hz, hle, q⟩ := h
    refine ⟨_, (pss_cons (ps_set (i := 3) sc_law_within.nd rfl (Or.inl rfl) (pe_dn D_cut_of hr (by decide) rfl (pa_cons (pv 0) (pa_cons (pv 1) pa_nil))))
      (pss_one (ps_ret (pe_and (pe_dn D_law_whole hr (by decide) rfl (pa_cons (pe_fld (pv 3) rfl) pa_nil)) (pe_and (pe_cmpR op_eq (pe_fld (pv 3) rfl) (pe_callB call_len_seq (by rfl) T.len boot_len (pa_cons (pe_ix ix_list (pe_dn D_law_cut hr (by decide) rfl (pa_cons (pv 1) pa_nil)) pe_int (fun _ _ => rfl)) pa_nil)) (nomark _)) (pe_one (pe_cmpR op_le (pe_fld (pv 3) rfl) (pv 2) (nomark _)))))))), ?_⟩
    refine q_call (ea_cons (ev_var rfl) (ea_cons (ev_var rfl) ea_nil)) fun H1 e1 => ⟨abc, shorter, rfl, hA, hs, by omega, fun cp H2 ncp e2 hC => ?_⟩
    obtain ⟨dx, k, q2, tt, rs, fs, ho, f1, f2, f3, f4, f5, f6, f7, hk, R, hq, ht⟩ := hC
    have hfm : ∀ {H3 : Hp} {σ4 : L2.St}, Ex H2 H3 → σ4[3]? = some (some (.ref cp)) → Ev (tFld K (tVar 3) "many") σ4 H3 (.int ((cutC shorter).1.length : Int)) := fun e h => ev_fld (ev_var h) (e _ _ ho) T.cut T.nCm f5
    refine s_ret (v := .bl (true && (decide (V.int ((cutC shorter).1.length : Int) = V.int ((cutC shorter).1.length : Int)) && decide (((cutC shorter).1.length : Int) ≤ (most : Int))))) (ev_andV (ev_call (ea_cons (hfm (Ex.refl H2) rfl) ea_nil) sv_whole) fun _ => ev_andV (ev_op (hfm (Ex.refl H2) rfl) (ev_cutMany (ev_var rfl) (by omega)) (rv_eq rfl)) fun _ => ev_op (hfm (Ex.refl H2) rfl) (ev_var rfl) rv_I0) fun H3 e3 => ?_
    rw [decide_eq_true rfl, decide_eq_true (by omega)]
    exact q H3 ((e1.trans e2).trans e3)
abbrev s_law_begins : Stmt := top 44
abbrev N_law_begins : List Str := ["abc", "ahead", "whole", "made"]
theorem sc_law_begins : FnScope N_law_begins ["abc", "ahead", "whole"] (defScope s_law_begins) := ⟨rfl, rfl, rfl, by decide +kernel, rfl, by decide +kernel, by decide +kernel⟩
theorem kit_tup_tup {K : PySem.W.Frag} : PySem.W.kitOne K (.type "tuple") (.type "tuple") = some true := by rfl
def spBe (K : PySem.W.Frag) : Sp := fun vs H Q _ => ∃ (abc text : List Nat) (i : Nat) (k : Addr) (rs : List Addr), vs = [.str (S abc), .str (S (text.take i)), .ref k] ∧ AbcOk abc ∧ (∀ c ∈ text, c ∈ abc) ∧ text.length ≤ 400 ∧ H k = some (.tup (rV rs)) ∧ RowsAt H rs (cutC text).1 ∧ RetV (.bl true) H Q
theorem ok_law_begins (D_cut_of : Dn P w K mg base 5 "cut_of" s_cut_of ["alphabet", "text"] (spCutOf CC)) (D_law_whole : Dn P w K mg base 1 "_law_whole" s_law_whole ["value"] spWhole) (T : TC K mg CG CC) (F : At K mg "_law_begins" s_law_begins) : Dn P w K mg base 6 "_law_begins" s_law_begins ["abc", "ahead", "whole"] (spBe K) := by
  refine dn_ok F sc_law_begins (fun _ _ _ _ _ _ us hl => match us, hl with | [_, _, _], _ => rfl) (fun vs H Q E h => ?_) (fun f cdv A outer t H vs Q E hr h => ?_)
  · obtain ⟨abc, text, i, k, rs, rfl, _⟩ := h; rfl
  · obtain ⟨abc, text, i, k, rs, rfl, hA, hs, hz, hk, R, q⟩ := h
    refine ⟨_, (pss_cons (ps_set (i := 3) sc_law_begins.nd rfl (Or.inl rfl) (pe_dn D_cut_of hr (by decide) rfl (pa_cons (pv 0) (pa_cons (pv 1) pa_nil))))
      (pss_cons (ps_if (PW.pt (pw_or (pt_not (pt_val (pe_callB call_isi (by rfl) T.isinstance (by decide +kernel) (pa_cons (pe_fld (pv 3) rfl) (pa_cons (pe_tyn "tuple" rfl T.tuple_ (by decide +kernel)) pa_nil))))) (pw_or (pt_not (pt_val (pe_dn D_law_whole hr (by decide) rfl (pa_cons (pe_fld (pv 3) rfl) pa_nil)))) (pw_or1 (pt_cmpR op_gt (pe_fld (pv 3) rfl) (pe_callB call_len_seq (by rfl) T.len boot_len (pa_cons (pv 2) pa_nil)) (nomark _)))))) (pss_one (ps_ret pe_bl)) pss_nil)
      (pss_one (ps_ret (pe_and (pe_cmpR (op_eqD (un64 hr)) (pe_fld (pv 3) rfl) (pe_slice sl_tupA (pv 2) po_none (po_some (pe_fld (pv 3) rfl))) (nomark _)) (pe_one (pe_cmpR op_eq (pe_callB call_len_seq (by rfl) T.len boot_len (pa_cons (pe_fld (pv 3) rfl) pa_nil)) (pe_fld (pv 3) rfl) (nomark _)))))))), ?_⟩
    have hs2 : ∀ c ∈ text.take i, c ∈ abc := fun c hc => hs c (List.mem_of_mem_take hc)
    have hz2 : (text.take i).length ≤ 400 := by rw [List.length_take]; omega
    refine q_call (ea_cons (ev_var rfl) (ea_cons (ev_var rfl) ea_nil)) fun H1 e1 => ⟨abc, text.take i, rfl, hA, hs2, by omega, fun cp H2 ncp e2 hC => ?_⟩
    have hC2 := hC
    obtain ⟨dx, k2, q2, tt, rs2, fs, ho, f1, f2, f3, f4, f5, f6, f7, hk2, R2, hq, ht⟩ := hC2
    have e12 := e1.trans e2
    have hlt := cut_take_le text i
    have hrl := R.len
    have hfm : ∀ {H3 : Hp} {σ4 : L2.St}, Ex H2 H3 → σ4[3]? = some (some (.ref cp)) → Ev (tFld K (tVar 3) "many") σ4 H3 (.int ((cutC (text.take i)).1.length : Int)) := fun e h => ev_fld (ev_var h) (e _ _ ho) T.cut T.nCm f5
    have hfr : ∀ {H3 : Hp} {σ4 : L2.St}, Ex H2 H3 → σ4[3]? = some (some (.ref cp)) → Ev (tFld K (tVar 3) "rows") σ4 H3 (.ref k2) := fun e h => ev_fld (ev_var h) (e _ _ ho) T.cut T.nCr f2
    refine q_when (b := !true || (!true || decide (((rV rs).length : Int) < ((cutC (text.take i)).1.length : Int)))) (et_or (et_not (et_B (ev_isi (hfr (Ex.refl H2) rfl) ev_c (ClsV.ty "tuple") (fun H3 e3 => .base (.tup (e3 _ _ hk2))) kit_tup_tup))) fun _ => et_or (et_not (et_B (ev_call (ea_cons (hfm (Ex.refl H2) rfl) ea_nil) sv_whole))) fun _ => et_test (ev_op (hfm (Ex.refl H2) rfl) (ev_lenT (K := K) (ev_var rfl) (st_of (e12 _ _ hk))) rv_I0)) (fun hb H3 e3 => ?_) (fun hb H3 e3 => ?_)
    · exfalso
      have hl : (rV rs).length = rs.length := List.length_map _
      rw [decide_eq_false (by omega)] at hb
      exact absurd hb (by decide)
    have hL := cut_lets hA hs2
    have htk := cut_take text i
    have hl2 : (rV rs2).length = (cutC (text.take i)).1.length := by rw [List.length_map]; exact R2.len
    have h23 := e12.trans e3
    refine s_ret (v := .bl (PyData.eqv (rowD (cutC (text.take i)).1) (rowD ((cutC text).1.take (cutC (text.take i)).1.length)) && decide (V.int ((rV rs2).length : Int) = V.int ((cutC (text.take i)).1.length : Int)))) (ev_andV (ev_eqRows (hfr e3 rfl) (e3 _ _ hk2) (R2.ex e3) (ew_slA (ev_var rfl) (hfm e3 rfl) (h23 _ _ hk) (R.ex h23)) hL (by rw [← htk]; exact hL)) fun _ => ev_op (ev_lenT (K := K) (hfr e3 rfl) (st_of (e3 _ _ hk2))) (hfm e3 rfl) (rv_eq rfl)) fun H4 e4 => ?_
    rw [← htk, eqv_rows hL, hl2, decide_eq_true rfl]
    exact q H4 (h23.trans e4)
end
end My

set_option Elab.async false
set_option linter.all false
set_option maxRecDepth 100000
set_option maxHeartbeats 4000000
namespace My
open PySem PySem.Spec PyProof.Rows L2 Evl
open SX (S S_len S_cat S_beq S_beq_eq S_inj S_tl)
def S7 : List Int := [12, 36, 36, 36, 36, 36, 36]
def S3 : List Int := [401, 401, 3]
def St : List Int := [22, 8, 401, 401, 12] ++ List.replicate 400 6
theorem ok7 : OkSizes S7 := by unfold OkSizes; decide
theorem ok3 : OkSizes S3 := by unfold OkSizes; decide
theorem okt : OkSizes St := by unfold OkSizes; decide +kernel
theorem e_t : [V.int 22, V.int 8, V.int 401, V.int 401, V.int 12] ++ (List.replicate (Int.toNat 400) [V.int 6]).flatten = St.map V.int := by decide +kernel
theorem sum_nat (l : List Nat) : (l.map fun (n : Nat) => (n : Int)).sum = ((l.sum : Nat) : Int) := by
  induction l with
  | nil => rfl
  | cons a l ih => rw [List.map_cons, List.sum_cons, List.sum_cons, ih, Int.natCast_add]
/-- a window of the text -/
def IsW (text u : List Nat) : Prop := ∃ x r, text.drop x = u ++ r ∧ x ≤ text.length
theorem isW_mk (text : List Nat) (x y : Nat) : IsW text ((text.drop x).take y) := by
  by_cases c : x ≤ text.length
  · exact ⟨x, (text.drop x).drop y, (List.take_append_drop y _).symm, c⟩
  · refine ⟨0, text, ?_, Nat.zero_le _⟩
    rw [List.drop_eq_nil_of_le (by omega : text.length ≤ x), List.take_nil]
    rfl
theorem isW_drop (text : List Nat) (x : Nat) : IsW text (text.drop x) := by
  have := isW_mk text x text.length
  rwa [List.take_of_length_le (by rw [List.length_drop]; omega)] at this
theorem isW_take (text : List Nat) (y : Nat) : IsW text (text.take y) := isW_mk text 0 y
theorem isW_sub {text u abc : List Nat} (h : IsW text u) (hs : ∀ c ∈ text, c ∈ abc) : (∀ c ∈ u, c ∈ abc) ∧ u.length ≤ text.length := by
  obtain ⟨x, r, e, _⟩ := h
  have hl := congrArg List.length e
  rw [List.length_drop, List.length_append] at hl
  refine ⟨fun c hc => hs c (List.mem_of_mem_drop (i := x) ?_), by omega⟩
  rw [e]
  exact List.mem_append_left _ hc
theorem cutL_last (text : List Nat) : cutL text none (some (-1)) = text.take (text.length - 1) := by
  unfold cutL
  have e1 : HT.sIx text.length 0 none = 0 := rfl
  have e2 : HT.sIx text.length text.length (some (-1)) = text.length - 1 := by
    show (if (-1 : Int) < 0 then ((-1 : Int) + (text.length : Int)).toNat else min (-1 : Int).toNat text.length) = _
    rw [if_pos (by decide)]
    omega
  rw [e1, e2, List.drop_zero, Nat.sub_zero]
/-- the number that no row exceeds -/
def topF (text : List Nat) (n : Nat) (all : List (List Nat)) : Nat := betw (brF (piF (cutC text).1)) 0 (text.length : Int) + greedy 1 text.length (cntsF n all)
theorem top_row {text : List Nat} {row : Parts} {n : Nat} {all : List (List Nat)} (hg : goodF text row = true) (hm : IsMax n (piF (cutC text).1)) (hf : Facs (piF (cutC text).1) all) : row.length ≤ topF text n all := text_spread hg hf hm.2
theorem top_win {text u : List Nat} {n : Nat} {all : List (List Nat)} (h : IsW text u) (hm : IsMax n (piF (cutC text).1)) (hf : Facs (piF (cutC text).1) all) : (cutC u).1.length ≤ topF text n all := by
  obtain ⟨x, r, e, hx⟩ := h
  have := top_row (moved_good e hx) hm hf
  rw [movF_len, List.length_tail, piF_len] at this
  omega
theorem pi_sum (text : List Nat) : ((piF (cutC text).1).map List.length).sum ≤ text.length := by
  have h := (cut_words (text := text) (abc := text) fun c hc => hc).2
  have hz := piF_zero (cutC text).1
  have hl := piF_len (cutC text).1
  generalize piF (cutC text).1 = ps at h hz hl ⊢
  cases ps with
  | nil => simp at hl
  | cons p ps =>
    have hp : p = [] := hz
    subst hp
    rw [List.map_cons, List.sum_cons]
    simpa using h
section
variable {K : PySem.W.Frag} {σ : L2.St} {H : Hp} {ta tb tc td te tl tp : TE} {x y z v : V} {D : Ends} {tz tu : TS} {E E1 E2 : XK}
theorem ew_ref {k : Addr} {rs : List Addr} {rows : List (Nat × Nat)} (h : Ev te σ H (.ref k)) (hk : H k = some (.tup (rV rs))) (R : RowsAt H rs rows) : EvRw te σ H rows := fun H1 e1 Q q => h H1 e1 _ fun H2 e2 => q k rs H2 e2 ((e1.trans e2) _ _ hk) (R.ex (e1.trans e2))
theorem ev_sumEd {pp : Addr} {ps : List (List Nat)} {far : Nat} (hp : Ev tp σ H (.ref pp)) (hl : Ev tl σ H (.int (far : Int))) (hS : SqL K H pp (sV ps)) (h1 : ∀ s ∈ ps.tail, s ≠ []) (h2 : ps.tail.flatten.length ≤ far) (h3 : far ≤ 4000) (h4 : ps.length ≤ 5000) : Ev (tCB (rSum K) (tCons (tCall (spEd K) [] E (tCons tp (tCons tl tNil))) tNil)) σ H (.int (betw (brF ps) 0 (far : Int) : Nat)) := fun H0 e0 Q q =>
  hp H0 e0 _ fun H1 e1 => hl H1 (e0.trans e1) _ fun H2 e2 => ⟨pp, ps, far, rfl, ex_l ((e0.trans e1).trans e2) hS, h1, h2, h3, h4, fun fl hE p H3 _ e3 hp3 => ⟨p, fl.map fun (n : Nat) => (n : Int), rfl, by rw [List.map_map]; exact sq_of hp3, by
    rw [sum_nat, hE.2.1]
    exact q H3 ((e1.trans e2).trans e3)⟩⟩
theorem ev_mostIn {pp : Addr} {rows : List (Nat × Nat)} {L n : Nat} {all : List (List Nat)} (hl : Ev tl σ H (.int (L : Int))) (hp : Ev tp σ H (.ref pp)) (hS : SqL K H pp (sV (piF rows))) (hpar : ∀ (i : Nat) (r : Nat × Nat), rows[i]? = some r → r.1 ≤ i) (h4 : rows.length ≤ 400) (hsum : ((piF rows).map List.length).sum ≤ 4000) (hm : IsMax n (piF rows)) (hf : Facs (piF rows) all) (hn : n ≤ 5000) :
    Ev (tCall (spMW K) [] E1 (tCons tl (tCons (tCall (spLI K) [] E2 (tCons tp tNil)) tNil))) σ H (.int (greedy 1 L (cntsF n all) : Nat)) := fun H0 e0 Q q =>
  hl H0 e0 _ fun H1 e1 => hp H1 (e0.trans e1) _ fun H2 e2 => ⟨pp, rows, n, all, rfl, ex_l ((e0.trans e1).trans e2) hS, hpar, h4, hsum, hm, hf, fun q2 H3 _ e3 h3 => ⟨L, q2, cntsF n all, rfl, sq_of h3, by rw [cntsF_len]; exact hn, fun H4 e4 => q H4 (((e1.trans e2).trans e3).trans e4)⟩⟩
theorem q_moved {i : Nat} {wdw : List Nat} {a : Nat} (hw : Ev tp σ H (.str (S wdw))) (ha : Ev tl σ H (.int (a : Int))) (hz : wdw.length ≤ 400) (k : ∀ p H1, Ex H H1 → RowT H1 p (movF a (piF (cutC wdw).1).tail) → tz D (σ.set i (some (.ref p))) H1) :
    tSeq (tAsg (tCall (spMv K) [] E1 (tCons (tOp (rIxL K) (tCall spLC [] E2 (tCons tp tNil)) (tC (.int 2))) (tCons tl tNil))) (gName i)) tz D σ H :=
  hw H (Ex.refl H) _ fun H1 e1 => ⟨wdw, rfl, by omega, fun p k2 pl rs H2 np e2 hp hk hR hpl => by
    show rIxL K (V.ref p) (V.int 2) H2 (fun x H1 => tCons tl tNil σ H1 fun xs H2 => spMv K ((x :: xs) ++ []) H2 (fun v H3 => tz D (σ.set i (some v)) H3) E1)
    refine (rv_ixL (K := K) (H := H2) (v := .ref pl) (i := 2) (sq_of hp) rfl) H2 (Ex.refl H2) _ fun H3 e3 => ?_
    refine ha H3 ((e1.trans e2).trans e3) _ fun H4 e4 => ⟨pl, _, a, rfl, sq_of (e4 _ _ (e3 _ _ hpl)), by have := cutC_len wdw; rw [piF_len]; omega, ?_, fun q2 row H5 e5 hR5 hG => ?_⟩
    · have h := congrArg List.length (cutOk wdw).joined
      rw [List.length_append] at h
      omega
    · subst hG
      exact k q2 H5 ((((e1.trans e2).trans e3).trans e4).trans e5) hR5⟩
theorem sv_un {text : List Nat} {p : Addr} {row : Parts} (hz : text.length ≤ 100000) (hl : row.length ≤ 10000) (hR : RowT H p row) (hg : goodF text row = true) : SpV spUn [.str (S text), .ref p] H (.bl true) := fun H1 e Q q _ => ⟨text, p, row, rfl, hz, hl, hR.ex e, by rw [hg]; exact q⟩
theorem sv_sp {CC p : Addr} {abc text : List Nat} {n : Nat} {all : List (List Nat)} (hC : CutAt CC H p abc (cutC text).1 (cutC text).2) (hz : text.length ≤ 400) (hm : IsMax n (piF (cutC text).1)) (hf : Facs (piF (cutC text).1) all) : SpV (spSp CC) [.ref p] H (.int (topF text n all : Nat)) := fun H1 e Q q _ => ⟨p, abc, text, n, all, rfl, hC.ex e, hz, hm, hf, q⟩
theorem q_sort2 {s : Nat} {i j : Int} (h : EvL te σ H [.int i, .int j]) (k : ∀ p H1 x y, H p = none → Ex H H1 → H1 p = some (.lst [.int x, .int y]) → x ≤ y → (x = i ∨ x = j) → (y = i ∨ y = j) → tz D (σ.set s (some (.ref p))) H1) : tSeq (tAsg (tCB (rSortedI K) (tCons te tNil)) (gName s)) tz D σ H :=
  h H (Ex.refl H) _ fun p H1 hp e1 h1 => ⟨p, [i, j], rfl, sq_of h1, fun ns' p2 perm srt hp2 => by
    have hl := perm.length_eq
    match ns', hl, perm, srt with
    | [x, y], _, perm, srt =>
      have hx : x ∈ [i, j] := perm.mem_iff.mp (List.mem_cons_self ..)
      have hy : y ∈ [i, j] := perm.mem_iff.mp (List.mem_cons_of_mem _ (List.mem_cons_self ..))
      have hxy : x ≤ y := (List.pairwise_cons.mp srt).1 y (List.mem_cons_self ..)
      refine k p2 _ x y (fresh_back e1 hp2) (e1.trans (Ex.new hp2)) upd_same hxy ?_ ?_
      · simpa using hx
      · simpa using hy⟩
end
section
variable {P : Program} {w : World} {K : PySem.W.Frag} {mg : Str → Option Value} {base : Heap}
variable {CG CC : Addr}
abbrev s_law : Stmt := top 46
abbrev N_law : List Str := ["script", "abc", "text", "row", "ends", "own", "due", "made", "top", "window", "shorter", "ahead", "placed"]
theorem sc_law : FnScope N_law ["script"] (defScope s_law) := ⟨rfl, rfl, rfl, by decide +kernel, rfl, by decide +kernel, by decide +kernel⟩
def spLaw (K : PySem.W.Frag) : Sp := fun vs H Q _ => ∃ (a : Addr) (ns : List Int), vs = [.ref a] ∧ SqL K H a (ns.map V.int) ∧ ∀ H', Q (.bl true) H'
theorem ok_law (D_law_cell : Dn P w K mg base 1 "_law_cell" s_law_cell ["script", "k"] (spCellF K)) (D_law_digits : Dn P w K mg base 1 "_law_digits" s_law_digits ["cell", "sizes"] (spDigits K)) (D_law_alphabet : Dn P w K mg base 1 "_law_alphabet" s_law_alphabet ["row", "upto"] (spAlp K))
    (D_law_any_text : Dn P w K mg base 2 "_law_any_text" s_law_any_text ["abc", "row", "most"] (spAny K)) (D_cut_of : Dn P w K mg base 5 "cut_of" s_cut_of ["alphabet", "text"] (spCutOf CC)) (D_law_cut : Dn P w K mg base 1 "_law_cut" s_law_cut ["text"] spLC) (D_law_whole : Dn P w K mg base 1 "_law_whole" s_law_whole ["value"] spWhole)
    (D_law_edges : Dn P w K mg base 1 "_law_edges" s_law_edges ["pieces", "far"] (spEd K)) (D_law_most_words : Dn P w K mg base 1 "_law_most_words" s_law_most_words ["far", "parts"] (spMW K)) (D_law_inside : Dn P w K mg base 1 "_law_inside" s_law_inside ["pieces"] (spLI K)) (D_spread : Dn P w K mg base 2 "spread" s_spread ["cut"] (spSp CC))
    (D_law_within : Dn P w K mg base 6 "_law_within" s_law_within ["abc", "shorter", "most"] spWi) (D_law_begins : Dn P w K mg base 6 "_law_begins" s_law_begins ["abc", "ahead", "whole"] (spBe K)) (D_law_moved : Dn P w K mg base 1 "_law_moved" s_law_moved ["pieces", "at"] (spMv K)) (D_are_unlike : Dn P w K mg base 1 "are_unlike" s_are_unlike ["text", "stretches"] spUn)
    (T : TC K mg CG CC) (F : At K mg "law" s_law) : Dn P w K mg base 7 "law" s_law ["script"] (spLaw K) := by
  refine dn_ok F sc_law (fun _ _ _ _ _ _ us hl => match us, hl with | [_], _ => rfl) (fun vs H Q E h => ?_) (fun f cdv A outer t H vs Q E hr h => ?_)
  · obtain ⟨a, ns, rfl, _⟩ := h; rfl
  · obtain ⟨a, ns, rfl, hS, q⟩ := h
    refine ⟨_, (pss_cons (ps_set (i := 1) sc_law.nd rfl (Or.inl rfl) (pe_dn D_law_alphabet hr (by decide) rfl (pa_cons (pe_dn D_law_digits hr (by decide) rfl (pa_cons (pe_dn D_law_cell hr (by decide) rfl (pa_cons (pv 0) (pa_cons pe_int pa_nil))) (pa_cons (pe_lst (pa_cons pe_int (pa_cons pe_int (pa_cons pe_int (pa_cons pe_int (pa_cons pe_int (pa_cons pe_int (pa_cons pe_int pa_nil)))))))) pa_nil))) (pa_cons pe_int pa_nil))))
      (pss_cons (ps_set (i := 2) sc_law.nd rfl (Or.inl rfl) (pe_dn D_law_any_text hr (by decide) rfl (pa_cons (pv 1) (pa_cons (pe_dn D_law_digits hr (by decide) rfl (pa_cons (pe_dn D_law_cell hr (by decide) rfl (pa_cons (pv 0) (pa_cons pe_int pa_nil))) (pa_cons (pe_op op_cat (pe_lst (pa_cons pe_int (pa_cons pe_int (pa_cons pe_int (pa_cons pe_int (pa_cons pe_int pa_nil)))))) (pe_op op_rep (pe_lst (pa_cons pe_int pa_nil)) pe_int)) pa_nil))) (pa_cons pe_int pa_nil)))))
      (pss_cons (ps_set (i := 3) sc_law.nd rfl (Or.inl rfl) (pe_dn D_law_digits hr (by decide) rfl (pa_cons (pe_dn D_law_cell hr (by decide) rfl (pa_cons (pv 0) (pa_cons pe_int pa_nil))) (pa_cons (pe_lst (pa_cons pe_int (pa_cons pe_int (pa_cons pe_int pa_nil)))) pa_nil))))
      (pss_cons (ps_set (i := 4) sc_law.nd rfl (Or.inl rfl) (pe_callB cr_sortedI (by rfl) T.sorted (by decide +kernel) (pa_cons (pe_lst (pa_cons (pe_op op_mod (pe_callTy call_int1 (by rfl) T.int_ (by decide +kernel) (pa_cons (pe_ix ix_list (pv 3) pe_int (fun _ _ => rfl)) pa_nil)) (pe_op op_add (pe_callB call_len_str (by rfl) T.len boot_len (pa_cons (pv 2) pa_nil)) pe_int)) (pa_cons (pe_op op_mod (pe_callTy call_int1 (by rfl) T.int_ (by decide +kernel) (pa_cons (pe_ix ix_list (pv 3) pe_int (fun _ _ => rfl)) pa_nil)) (pe_op op_add (pe_callB call_len_str (by rfl) T.len boot_len (pa_cons (pv 2) pa_nil)) pe_int)) pa_nil))) pa_nil)))
      (pss_cut (ps_if (pt_cmpR op_eq (pe_ix ix_list (pv 3) pe_int (fun _ _ => rfl)) pe_int (nomark _)) (pss_one (ps_set (i := 4) sc_law.nd rfl (Or.inl rfl) (pe_lst (pa_cons (pe_callB (call_min2 rfl) (by rfl) T.min (by decide +kernel) (pa_cons (pe_op op_add pe_int (pe_op op_mod (pe_callTy call_int1 (by rfl) T.int_ (by decide +kernel) (pa_cons (pe_ix ix_list (pv 3) pe_int (fun _ _ => rfl)) pa_nil)) pe_int)) (pa_cons (pe_ix ix_list (pv 4) pe_int (fun _ _ => rfl)) pa_nil))) (pa_cons (pe_ix ix_list (pv 4) pe_int (fun _ _ => rfl)) pa_nil))))) pss_nil)
      (pss_cons (ps_set (i := 5) sc_law.nd rfl (Or.inl rfl) (pe_dn D_law_cut hr (by decide) rfl (pa_cons (pv 2) pa_nil)))
      (pss_cons (ps_set (i := 6) sc_law.nd rfl (Or.inl rfl) (pe_op op_add (pe_callB (cr_sum rfl) (by rfl) T.sum (by decide +kernel) (pa_cons (pe_dn D_law_edges hr (by decide) rfl (pa_cons (pe_ix ix_list (pv 5) pe_int (fun _ _ => rfl)) (pa_cons (pe_callB call_len_str (by rfl) T.len boot_len (pa_cons (pv 2) pa_nil)) pa_nil))) pa_nil)) (pe_dn D_law_most_words hr (by decide) rfl (pa_cons (pe_callB call_len_str (by rfl) T.len boot_len (pa_cons (pv 2) pa_nil)) (pa_cons (pe_dn D_law_inside hr (by decide) rfl (pa_cons (pe_ix ix_list (pv 5) pe_int (fun _ _ => rfl)) pa_nil)) pa_nil)))))
      (pss_cons (ps_set (i := 7) sc_law.nd rfl (Or.inl rfl) (pe_dn D_cut_of hr (by decide) rfl (pa_cons (pv 1) (pa_cons (pv 2) pa_nil))))
      (pss_cons (ps_set (i := 8) sc_law.nd rfl (Or.inl rfl) (pe_dn D_spread hr (by decide) rfl (pa_cons (pv 7) pa_nil)))
      (pss_cons (ps_if (PW.pt (pw_or (pt_not (pt_val (pe_dn D_law_whole hr (by decide) rfl (pa_cons (pv 8) pa_nil)))) (pw_or (pt_cmpR op_ne (pv 8) (pv 6) (nomark _)) (pw_or1 (pt_cmpR (op_neD (un64 hr)) (pe_fld (pv 7) rfl) (pe_ix ix_list (pv 5) pe_int (fun _ _ => rfl)) (nomark _)))))) (pss_one (ps_ret pe_bl)) pss_nil)
      (pss_cons (ps_set (i := 9) sc_law.nd rfl (Or.inl rfl) (pe_slice sl_str (pv 2) (po_some (pe_ix ix_list (pv 4) pe_int (fun _ _ => rfl))) (po_some (pe_ix ix_list (pv 4) pe_int (fun _ _ => rfl)))))
      (pss_cons (ps_for PassesOwn.never rfl (pi_list (pe_lst (pa_cons (pv 9) (pa_cons (pe_slice sl_str (pv 2) (po_some (pe_ix ix_list (pv 4) pe_int (fun _ _ => rfl))) po_none) (pa_cons (pe_slice sl_str (pv 2) (po_some pe_int) po_none) (pa_cons (pe_slice sl_str (pv 2) po_none (po_some (pe_un un_neg pe_int))) pa_nil)))))) (pg_name (i := 10) sc_law.nd rfl (Or.inl rfl))
        (pss_one (ps_if (pt_not (pt_val (pe_dn D_law_within hr (by decide) rfl (pa_cons (pv 1) (pa_cons (pv 10) (pa_cons (pv 8) pa_nil)))))) (pss_one (ps_ret pe_bl)) pss_nil)))
      (pss_cons (ps_for PassesOwn.never rfl (pi_list (pe_lst (pa_cons (pe_slice sl_str (pv 2) po_none (po_some (pe_ix ix_list (pv 4) pe_int (fun _ _ => rfl)))) (pa_cons (pe_slice sl_str (pv 2) po_none (po_some (pe_ix ix_list (pv 4) pe_int (fun _ _ => rfl)))) (pa_cons (pe_slice sl_str (pv 2) po_none (po_some (pe_un un_neg pe_int))) pa_nil))))) (pg_name (i := 11) sc_law.nd rfl (Or.inl rfl))
        (pss_one (ps_if (PW.pt (pw_or (pt_not (pt_val (pe_dn D_law_within hr (by decide) rfl (pa_cons (pv 1) (pa_cons (pv 11) (pa_cons (pe_callB call_len_seq (by rfl) T.len boot_len (pa_cons (pe_ix ix_list (pv 5) pe_int (fun _ _ => rfl)) pa_nil)) pa_nil)))))) (pw_or1 (pt_not (pt_val (pe_dn D_law_begins hr (by decide) rfl (pa_cons (pv 1) (pa_cons (pv 11) (pa_cons (pe_ix ix_list (pv 5) pe_int (fun _ _ => rfl)) pa_nil))))))))) (pss_one (ps_ret pe_bl)) pss_nil)))
      (pss_cons (ps_set (i := 12) sc_law.nd rfl (Or.inl rfl) (pe_dn D_law_moved hr (by decide) rfl (pa_cons (pe_ix ix_list (pe_dn D_law_cut hr (by decide) rfl (pa_cons (pv 9) pa_nil)) pe_int (fun _ _ => rfl)) (pa_cons (pe_ix ix_list (pv 4) pe_int (fun _ _ => rfl)) pa_nil))))
      (pss_one (ps_ret (pe_and (pe_cmpR op_isBl (pe_dn D_are_unlike hr (by decide) rfl (pa_cons (pv 2) (pa_cons (pv 12) pa_nil))) pe_bl (nomark _)) (pe_and (pe_cmpR op_le (pe_callB call_len_seq (by rfl) T.len boot_len (pa_cons (pv 12) pa_nil)) (pv 8) (nomark _)) (pe_one (pe_cmpR op_eq (pe_dn D_spread hr (by decide) rfl (pa_cons (pv 7) pa_nil)) (pv 8) (nomark _))))))))))))))))))))), ?_⟩
    -- abc
    have w7 : Within (digitsF (cellF ns 0) S7) S7 := digits_in _ _ (pos_of ok7)
    have l7 : (digitsF (cellF ns 0) S7).length = 7 := w7.len
    refine q_callLV (xs := (digitsF (cellF ns 0) S7).map V.int) (el_call2 (xs := S7.map V.int) (ev_call (ea_cons (ev_var rfl) (ea_cons ev_c ea_nil)) (sv_cell (K := K) (ex_l (Ex.refl H) hS) (by decide) (by decide))) (el_lst (ea_cons ev_c (ea_cons ev_c (ea_cons ev_c (ea_cons ev_c (ea_cons ev_c (ea_cons ev_c (ea_cons ev_c ea_nil))))))) (by show 7 ≤ 100000; decide)) (fun p H1 hp e => sl_digits (ss := S7) (sq_of hp) ok7)) ev_c fun p7 H1 e1 hp7 => ⟨p7, _, rfl, sq_of hp7, by omega, (w7.get 0 (by decide)).1, (w7.get 0 (by decide)).2, fun abc hA H2 e2 => ?_⟩
    have e12 := e1.trans e2
    have la1 := hA.1
    have la6 := hA.2.1
    have wt : Within (digitsF (cellF ns 2) St) St := digits_in _ _ (pos_of okt)
    have lt : (digitsF (cellF ns 2) St).length = 405 := wt.len
    -- text
    refine q_call3L (xs := (digitsF (cellF ns 2) St).map V.int) (ev_var rfl) (el_call2 (xs := St.map V.int) (ev_call (ea_cons (ev_var rfl) (ea_cons ev_c ea_nil)) (sv_cell (K := K) (ex_l e12 hS) (by decide) (by decide))) (by
      rw [← e_t]
      exact el_cat (el_lst (ea_cons ev_c (ea_cons ev_c (ea_cons ev_c (ea_cons ev_c (ea_cons ev_c ea_nil))))) (by show 5 ≤ 100000; decide)) (el_rep (el_lst (ea_cons ev_c ea_nil) (by show 1 ≤ 100000; decide)) (fun _ _ => ev_c) (by decide) (by decide) (by decide)) (by decide)) (fun p H1 hp e => sl_digits (ss := St) (sq_of hp) okt)) (fun _ _ => ev_c) fun p H4 hp4 e4 => ⟨abc, p, _, rfl, la1, by omega, sq_of hp4, lt, wt.get 1 (by decide), wt.get 4 (by decide), fun text htl hsub H5 e5 => ?_⟩
    have e15 := e12.trans (e4.trans e5)
    -- row
    refine q_call2L (xs := S3.map V.int) (ev_call (ea_cons (ev_var rfl) (ea_cons ev_c ea_nil)) (sv_cell (K := K) (ex_l e15 hS) (by decide) (by decide))) (el_lst (ea_cons ev_c (ea_cons ev_c (ea_cons ev_c ea_nil))) (by show 3 ≤ 100000; decide)) (fun p H1 hp e => sl_digits (ss := S3) (sq_of hp) ok3) fun rp H6 _ e6 hrp => ?_
    have w3 : Within (digitsF (cellF ns 1) S3) S3 := digits_in _ _ (pos_of ok3)
    revert w3 hrp
    generalize digitsF (cellF ns 1) S3 = ds
    intro hrp w3
    have l3 : ds.length = 3 := w3.len
    have tp0 : (0 : Int) < (text.length : Int) + 1 := by omega
    have m0 := Int.emod_nonneg (ds.getD 0 0) (show ((text.length : Int) + 1) ≠ 0 by omega)
    have m1 := Int.emod_lt_of_pos (ds.getD 0 0) tp0
    have m2 := Int.emod_nonneg (ds.getD 1 0) (show ((text.length : Int) + 1) ≠ 0 by omega)
    have m3 := Int.emod_lt_of_pos (ds.getD 1 0) tp0
    -- ends
    refine q_sort2 (i := ds.getD 0 0 % ((text.length : Int) + 1)) (j := ds.getD 1 0 % ((text.length : Int) + 1)) (el_lst (ea_cons (ev_op (ev_int (ev_op (ev_var rfl) ev_c (rv_ixL (K := K) (sq_of hrp) (at_d (i := 0) (by omega))))) (ev_op (ev_lenSS (ev_var rfl) (by omega)) ev_c rv_I0) (rv_I tp0)) (ea_cons (ev_op (ev_int (ev_op (ev_var rfl) ev_c (rv_ixL (K := K) (sq_of hrp) (at_d (i := 1) (by omega))))) (ev_op (ev_lenSS (ev_var rfl) (by omega)) ev_c rv_I0) (rv_I tp0)) ea_nil)) (by show 2 ≤ 100000; decide)) fun ep H7 ex ey nep e7 hep hxy hx hy => ?_
    have hrp7 := e7 _ _ hrp
    refine q_cutIf (fun σ' H' => ∃ (ep : Addr) (x y : Nat), σ' = [some (.ref a), some (.str (S abc)), some (.str (S text)), some (.ref rp), some (.ref ep), none, none, none, none, none, none, none, none] ∧ Ex H H' ∧ H' ep = some (.lst [.int (x : Int), .int (y : Int)]) ∧ x ≤ y ∧ y ≤ text.length)
      (et_test (ev_op (ev_op (ev_var rfl) ev_c (rv_ixL (K := K) (sq_of hrp7) (at_d (i := 2) (by omega)))) ev_c (rv_eq rfl))) (fun _ H8 e8 => ?_) (fun H8 e8 => ⟨ep, ex.toNat, ey.toNat, rfl, (e15.trans e6).trans (e7.trans e8), by
        have h1 : ((ex.toNat : Nat) : Int) = ex := by rcases hx with h | h <;> omega
        have h2 : ((ey.toNat : Nat) : Int) = ey := by rcases hy with h | h <;> omega
        rw [h1, h2]
        exact e8 _ _ hep, by omega, by rcases hy with h | h <;> omega⟩) ?_
    · have hep8 := e8 _ _ hep
      have hrp8 := e8 _ _ hrp7
      have n0 := Int.emod_nonneg (ds.getD 0 0) (show (9 : Int) ≠ 0 by decide)
      have hey : 0 ≤ ey ∧ ey ≤ (text.length : Int) := by rcases hy with h | h <;> omega
      refine s_asgL (el_lst (ea_cons (ev_min2 (ev_op ev_c (ev_op (ev_int (ev_op (ev_var rfl) ev_c (rv_ixL (K := K) (sq_of hrp8) (at_d (i := 0) (by omega))))) ev_c (rv_I (by decide))) rv_I0) (ev_op (ev_var rfl) ev_c (rv_ixL (K := K) (sq_of hep8) rfl))) (ea_cons (ev_op (ev_var rfl) ev_c (rv_ixL (K := K) (sq_of hep8) rfl)) ea_nil)) (by show 2 ≤ 100000; decide)) fun e2p H9 n9 e9 h9 => ⟨e2p, (if ey < 1 + ds.getD 0 0 % 9 then ey else 1 + ds.getD 0 0 % 9).toNat, ey.toNat, rfl, ((e15.trans e6).trans (e7.trans e8)).trans e9, ?_, ?_, by omega⟩
      · have h1 : (((if ey < 1 + ds.getD 0 0 % 9 then ey else 1 + ds.getD 0 0 % 9).toNat : Nat) : Int) = (if ey < 1 + ds.getD 0 0 % 9 then ey else 1 + ds.getD 0 0 % 9) := by split <;> omega
        have h2 : ((ey.toNat : Nat) : Int) = ey := by omega
        rw [h1, h2]
        exact h9
      · split <;> omega
    clear hep hx hy hxy hrp7
    rintro σ' H8 ⟨ep, x, y, rfl, e8, hep, hxy, hyl⟩
    -- own
    refine q_call (ea_cons (ev_var rfl) ea_nil) fun H9 e9 => ⟨text, rfl, by omega, fun op k pl rs H10 nop e10 hop hk R hpl => ?_⟩
    have e810 := e9.trans e10
    have hcl := cutC_len text
    have C := cutOk text
    obtain ⟨n, hmax⟩ := isMax_ex (ps := piF (cutC text).1) (fun z => by have := piF_len (cutC text).1; rw [z] at this; simp at this)
    obtain ⟨all, hfac⟩ := facs_ex C.par
    have hn4 : n ≤ 5000 := by
      obtain ⟨⟨u, hu, rfl⟩, _⟩ := hmax
      obtain ⟨i, hi, e⟩ := List.getElem_of_mem hu
      rw [piF_len] at hi
      have := piF_short C.par i (by omega)
      rw [List.getD_eq_getElem?_getD, List.getElem?_eq_getElem (by rw [piF_len]; omega)] at this
      have h2 : ((piF (cutC text).1)[i]'(by rw [piF_len]; omega)).length ≤ i := this
      rw [e] at h2
      omega
    have hsum := pi_sum text
    obtain ⟨hw1, hw2⟩ := cut_words (text := text) (abc := text) fun c hc => hc
    have own2 : ∀ {H11 : Hp} {σ4 : L2.St}, Ex H10 H11 → σ4[5]? = some (some (.ref op)) → Ev (tOp (rIxL K) (tVar 5) (tC (.int 2))) σ4 H11 (.ref pl) := fun e h => ev_op (ev_var h) ev_c (rv_ixL (K := K) (sq_of (e _ _ hop)) rfl)
    have own0 : ∀ {H11 : Hp} {σ4 : L2.St}, Ex H10 H11 → σ4[5]? = some (some (.ref op)) → Ev (tOp (rIxL K) (tVar 5) (tC (.int 0))) σ4 H11 (.ref k) := fun e h => ev_op (ev_var h) ev_c (rv_ixL (K := K) (sq_of (e _ _ hop)) rfl)
    -- due
    refine q_asg (v := .int ((topF text n all : Nat) : Int)) (ev_op (ev_sumEd (own2 (Ex.refl H10) rfl) (ev_lenSS (ev_var rfl) (by omega)) (sq_of hpl) (fun s hs => (hw1.2 s hs).1) (by rw [List.length_flatten]; exact hw2) (by omega) (by rw [piF_len]; omega)) (ev_mostIn (ev_lenSS (ev_var rfl) (by omega)) (own2 (Ex.refl H10) rfl) (sq_of hpl) C.par (by omega) (by omega) hmax hfac hn4) rv_I0) fun H11 e11 => ?_
    -- made
    refine q_call (ea_cons (ev_var rfl) (ea_cons (ev_var rfl) ea_nil)) fun H12 e12' => ⟨abc, text, rfl, hA, hsub, by omega, fun cp H13 ncp e13 hC => ?_⟩
    have hC13 := hC
    obtain ⟨dx, k2, q2, tt, rs2, fs, ho, f1, f2, f3, f4, f5, f6, f7, hk2, R2, hq2, htt⟩ := hC
    have e1013 := (e11.trans e12').trans e13
    refine q_asg (ev_call (ea_cons (ev_var rfl) ea_nil) (sv_sp hC13 htl hmax hfac)) fun H14 e14 => ?_
    have hL := cut_lets hA hsub
    have e1014 := e1013.trans e14
    refine q_when (b := !true || (!decide (V.int ((topF text n all : Nat) : Int) = V.int ((topF text n all : Nat) : Int)) || !PyData.eqv (rowD (cutC text).1) (rowD (cutC text).1))) (et_or (et_not (et_B (ev_call (ea_cons (ev_var rfl) ea_nil) sv_whole))) fun _ => et_or (et_test (ev_op (ev_var rfl) (ev_var rfl) (rv_ne rfl))) fun _ => et_test (ev_neRows (ev_fld (ev_var rfl) (e14 _ _ ho) T.cut T.nCr f2) (e14 _ _ hk2) (R2.ex e14) (ew_ref (own0 e1014 rfl) (e1014 _ _ hk) (R.ex e1014)) hL hL)) (fun hb H15 e15' => ?_) (fun hb H15 e15' => ?_)
    · exfalso
      rw [eqv_rows hL, decide_eq_true rfl] at hb
      exact absurd hb (by decide)
    have e815 := e810.trans (e1014.trans e15')
    have e1015 := e1014.trans e15'
    have g0 : ∀ {H11 : Hp} {σ4 : L2.St}, Ex H8 H11 → σ4[4]? = some (some (.ref ep)) → Ev (tOp (rIxL K) (tVar 4) (tC (.int 0))) σ4 H11 (.int (x : Int)) := fun e h => ev_op (ev_var h) ev_c (rv_ixL (K := K) (sq_of (e _ _ hep)) rfl)
    have g1 : ∀ {H11 : Hp} {σ4 : L2.St}, Ex H8 H11 → σ4[4]? = some (some (.ref ep)) → Ev (tOp (rIxL K) (tVar 4) (tC (.int 1))) σ4 H11 (.int (y : Int)) := fun e h => ev_op (ev_var h) ev_c (rv_ixL (K := K) (sq_of (e _ _ hep)) rfl)
    -- window
    have cw : cutL text (some (x : Int)) (some (y : Int)) = (text.drop x).take (y - x) := by rw [cutL_mid (by omega) (by omega), Int.toNat_natCast, Int.toNat_natCast]
    refine q_asg (v := .str (S ((text.drop x).take (y - x)))) (by rw [← cw]; exact ev_slS (ev_var rfl) (eo_some (g0 e815 rfl)) (eo_some (g1 e815 rfl)) (by omega)) fun H16 e16 => ?_
    have e816 := e815.trans e16
    have hwin := isW_mk text x (y - x)
    generalize hwd : (text.drop x).take (y - x) = wdw at hwin ⊢
    have pre : ∀ (us : List (List Nat)) (i : Nat) (z : V), (sV us)[i]? = some z → ∃ u ∈ us, z = .str (S u) := fun us i z hz => by
      have hi : i < us.length := by have := (List.getElem?_eq_some_iff.mp hz).1; rwa [List.length_map] at this
      rw [List.getElem?_map, List.getElem?_eq_getElem hi] at hz
      exact ⟨us[i], List.getElem_mem hi, (Option.some.inj hz).symm⟩
    -- shorter
    refine q_forNLn (K := K) (xs := sV [wdw, text.drop x, text.drop 1, text.take (text.length - 1)]) (el_lst (ea_cons (ev_var rfl) (ea_cons (by
      have := cutL_from (l := text) (i := (x : Int)) (by omega)
      rw [Int.toNat_natCast] at this
      rw [← this]
      exact ev_slS (ev_var rfl) (eo_some (g0 e816 rfl)) eo_none (by omega)) (ea_cons (by
      have := cutL_from (l := text) (i := (1 : Int)) (by omega)
      have e1' : (1 : Int).toNat = 1 := rfl
      rw [e1'] at this
      rw [← this]
      exact ev_slS (ev_var rfl) (eo_some ev_c) eo_none (by omega)) (ea_cons (by
      rw [← cutL_last]
      exact ev_slS (ev_var rfl) eo_none (eo_some (ev_un ev_c ru_neg)) (by omega)) ea_nil)))) (by show 4 ≤ 100000; decide)) (fun lp i σ' H' => ∃ z : Option V, σ' = [some (.ref a), some (.str (S abc)), some (.str (S text)), some (.ref rp), some (.ref ep), some (.ref op), some (.int (topF text n all : Nat)), some (.ref cp), some (.int (topF text n all : Nat)), some (.str (S wdw)), z, none, none] ∧ Ex H16 H' ∧ H' lp = some (.lst (sV [wdw, text.drop x, text.drop 1, text.take (text.length - 1)])))
      (fun lp H17 _ e17 h17 => ⟨none, rfl, e17, h17⟩) (fun lp i σ' H' _ ⟨_, _, _, h⟩ => sq_of h) ?_ ?_
    · rintro lp i z σ' H' hz ⟨z0, rfl, e17, h17⟩
      obtain ⟨u, hu, rfl⟩ := pre _ i z hz
      have hW : IsW text u := by
        rcases List.mem_cons.mp hu with rfl | hu
        · exact hwin
        rcases List.mem_cons.mp hu with rfl | hu
        · exact isW_drop text x
        rcases List.mem_cons.mp hu with rfl | hu
        · exact isW_drop text 1
        rw [List.mem_singleton.mp hu]
        exact isW_take text _
      obtain ⟨hs1, hs2⟩ := isW_sub hW hsub
      exact s_when (b := !true) (et_not (et_B (ev_call (ea_cons (ev_var rfl) (ea_cons (ev_var rfl) (ea_cons (ev_var rfl) ea_nil))) fun H18 e18 Q1 q1 _ => ⟨abc, u, topF text n all, rfl, hA, hs1, by omega, top_win hW hmax hfac, fun H19 e19 => q1 H19 e19⟩))) (fun hb => absurd hb (by decide)) fun _ H18 e18 => ⟨_, rfl, e17.trans e18, e18 _ _ h17⟩
    rintro lp σ' H17 ⟨z0, rfl, e17, _⟩
    have e817 := e816.trans e17
    have e1017 := (e1015.trans e16).trans e17
    -- ahead
    refine q_forNLn (K := K) (xs := sV [text.take x, text.take y, text.take (text.length - 1)]) (el_lst (ea_cons (by
      have := cutL_to (l := text) (i := (x : Int)) (by omega)
      rw [Int.toNat_natCast] at this
      rw [← this]
      exact ev_slS (ev_var rfl) eo_none (eo_some (g0 e817 rfl)) (by omega)) (ea_cons (by
      have := cutL_to (l := text) (i := (y : Int)) (by omega)
      rw [Int.toNat_natCast] at this
      rw [← this]
      exact ev_slS (ev_var rfl) eo_none (eo_some (g1 e817 rfl)) (by omega)) (ea_cons (by
      rw [← cutL_last]
      exact ev_slS (ev_var rfl) eo_none (eo_some (ev_un ev_c ru_neg)) (by omega)) ea_nil))) (by show 3 ≤ 100000; decide)) (fun lp i σ' H' => ∃ z : Option V, σ' = [some (.ref a), some (.str (S abc)), some (.str (S text)), some (.ref rp), some (.ref ep), some (.ref op), some (.int (topF text n all : Nat)), some (.ref cp), some (.int (topF text n all : Nat)), some (.str (S wdw)), z0, z, none] ∧ Ex H17 H' ∧ H' lp = some (.lst (sV [text.take x, text.take y, text.take (text.length - 1)])))
      (fun lp H18 _ e18 h18 => ⟨none, rfl, e18, h18⟩) (fun lp i σ' H' _ ⟨_, _, _, h⟩ => sq_of h) ?_ ?_
    · rintro lp i z σ' H' hz ⟨z1, rfl, e18, h18⟩
      obtain ⟨u, hu, rfl⟩ := pre _ i z hz
      obtain ⟨m, rfl⟩ : ∃ m, u = text.take m := by
        rcases List.mem_cons.mp hu with rfl | hu
        · exact ⟨_, rfl⟩
        rcases List.mem_cons.mp hu with rfl | hu
        · exact ⟨_, rfl⟩
        exact ⟨_, List.mem_singleton.mp hu⟩
      obtain ⟨hs1, hs2⟩ := isW_sub (isW_take text m) hsub
      have e1018 := e1017.trans e18
      have hkl : (rV rs).length = (cutC text).1.length := by rw [List.length_map]; exact R.len
      exact s_when (b := !true || !true) (et_or (et_not (et_B (ev_call (ea_cons (ev_var rfl) (ea_cons (ev_var rfl) (ea_cons (ev_is (ev_lenT (K := K) (own0 e1018 rfl) (st_of (e1018 _ _ hk))) (congrArg V.int (congrArg Int.ofNat hkl))) ea_nil))) fun H19 e19 Q1 q1 _ => ⟨abc, text.take m, (cutC text).1.length, rfl, hA, hs1, by omega, cut_take_le text m, fun H20 e20 => q1 H20 e20⟩))) fun _ => et_not (et_B (ev_call (ea_cons (ev_var rfl) (ea_cons (ev_var rfl) (ea_cons (own0 e1018 rfl) ea_nil))) fun H19 e19 Q1 q1 _ => ⟨abc, text, m, k, rs, rfl, hA, hsub, htl, (e1018.trans e19) _ _ hk, R.ex (e1018.trans e19), fun H20 e20 => q1 H20 e20⟩))) (fun hb => absurd hb (by decide)) fun _ H19 e19 => ⟨_, rfl, e18.trans e19, e19 _ _ h18⟩
    rintro lp σ' H18 ⟨z1, rfl, e18, _⟩
    have e818 := e817.trans e18
    obtain ⟨hs1, hs2⟩ := isW_sub hwin hsub
    -- placed
    refine q_moved (wdw := wdw) (a := x) (ev_var rfl) (g0 e818 rfl) (by omega) fun mp H19 e19 hR => ?_
    have hgood : goodF text (movF x (piF (cutC wdw).1).tail) = true := by
      refine moved_good (r := (text.drop x).drop (y - x)) ?_ (by omega)
      rw [← hwd, List.take_append_drop]
    have hrow := top_row hgood hmax hfac
    have hrl := good_len hgood
    have e1319 : Ex H13 H19 := (((e14.trans e15').trans e16).trans e17).trans (e18.trans e19)
    refine s_ret (v := .bl (decide (true = true) && (decide (((movF x (piF (cutC wdw).1).tail).length : Int) ≤ ((topF text n all : Nat) : Int)) && decide (V.int ((topF text n all : Nat) : Int) = V.int ((topF text n all : Nat) : Int))))) (ev_andV (ev_op (ev_call (ea_cons (ev_var rfl) (ea_cons (ev_var rfl) ea_nil)) (sv_un (by omega) (by omega) hR hgood)) ev_c (rv_val fun H1 _ Q qq => ⟨_, _, rfl, rfl, qq⟩)) fun _ => ev_andV (ev_op (ev_lenR hR (ev_var rfl)) (ev_var rfl) rv_I0) fun _ => ev_op (ev_call (ea_cons (ev_var rfl) ea_nil) (sv_sp (hC13.ex e1319) htl hmax hfac)) (ev_var rfl) (rv_eq rfl)) fun H20 e20 => ?_
    rw [decide_eq_true rfl, decide_eq_true (by omega), decide_eq_true rfl]
    exact q H20
end
end My

set_option Elab.async false
set_option linter.all false
set_option maxRecDepth 100000
set_option maxHeartbeats 0
namespace My
open PySem PySem.Spec PyProof.Rows L2 Evl
def d_are_unlike : He.DefD := ⟨("are_unlike", none), "are_unlike", "are_unlike", defArgs s_are_unlike, defBody s_are_unlike, defScope s_are_unlike, [], []⟩
def d_inside_counts : He.DefD := ⟨("inside_counts", none), "inside_counts", "inside_counts", defArgs s_inside_counts, defBody s_inside_counts, defScope s_inside_counts, [], []⟩
def d_fill : He.DefD := ⟨("fill", none), "fill", "fill", defArgs s_fill, defBody s_fill, defScope s_fill, [], []⟩
def d_borders : He.DefD := ⟨("borders", none), "borders", "borders", defArgs s_borders, defBody s_borders, defScope s_borders, [], []⟩
def d_spread : He.DefD := ⟨("spread", none), "spread", "spread", defArgs s_spread, defBody s_spread, defScope s_spread, [], []⟩
def d_is_whole : He.DefD := ⟨("is_whole", none), "is_whole", "is_whole", defArgs s_is_whole, defBody s_is_whole, defScope s_is_whole, [], []⟩
def d_is_letter : He.DefD := ⟨("is_letter", none), "is_letter", "is_letter", defArgs s_is_letter, defBody s_is_letter, defScope s_is_letter, [], []⟩
def d_is_alphabet : He.DefD := ⟨("is_alphabet", none), "is_alphabet", "is_alphabet", defArgs s_is_alphabet, defBody s_is_alphabet, defScope s_is_alphabet, [], []⟩
def d_check_alphabet : He.DefD := ⟨("check_alphabet", none), "check_alphabet", "check_alphabet", defArgs s_check_alphabet, defBody s_check_alphabet, defScope s_check_alphabet, [], []⟩
def d_check_text : He.DefD := ⟨("check_text", none), "check_text", "check_text", defArgs s_check_text, defBody s_check_text, defScope s_check_text, [], []⟩
def d_cut_of : He.DefD := ⟨("cut_of", none), "cut_of", "cut_of", defArgs s_cut_of, defBody s_cut_of, defScope s_cut_of, [], []⟩
def d_check_rows : He.DefD := ⟨("_check_rows", none), "_check_rows", "_check_rows", defArgs s_check_rows, defBody s_check_rows, defScope s_check_rows, [], []⟩
def d_piece_texts : He.DefD := ⟨("_piece_texts", none), "_piece_texts", "_piece_texts", defArgs s_piece_texts, defBody s_piece_texts, defScope s_piece_texts, [], []⟩
def d_starts_of : He.DefD := ⟨("_starts_of", none), "_starts_of", "_starts_of", defArgs s_starts_of, defBody s_starts_of, defScope s_starts_of, [], []⟩
def d_law_whole : He.DefD := ⟨("_law_whole", none), "_law_whole", "_law_whole", defArgs s_law_whole, defBody s_law_whole, defScope s_law_whole, [], []⟩
def d_law_cell : He.DefD := ⟨("_law_cell", none), "_law_cell", "_law_cell", defArgs s_law_cell, defBody s_law_cell, defScope s_law_cell, [], []⟩
def d_law_digits : He.DefD := ⟨("_law_digits", none), "_law_digits", "_law_digits", defArgs s_law_digits, defBody s_law_digits, defScope s_law_digits, [], []⟩
def d_law_alphabet : He.DefD := ⟨("_law_alphabet", none), "_law_alphabet", "_law_alphabet", defArgs s_law_alphabet, defBody s_law_alphabet, defScope s_law_alphabet, [], []⟩
def d_law_doubling : He.DefD := ⟨("_law_doubling", none), "_law_doubling", "_law_doubling", defArgs s_law_doubling, defBody s_law_doubling, defScope s_law_doubling, [], []⟩
def d_law_two_before : He.DefD := ⟨("_law_two_before", none), "_law_two_before", "_law_two_before", defArgs s_law_two_before, defBody s_law_two_before, defScope s_law_two_before, [], []⟩
def d_law_counted : He.DefD := ⟨("_law_counted", none), "_law_counted", "_law_counted", defArgs s_law_counted, defBody s_law_counted, defScope s_law_counted, [], []⟩
def d_law_any_text : He.DefD := ⟨("_law_any_text", none), "_law_any_text", "_law_any_text", defArgs s_law_any_text, defBody s_law_any_text, defScope s_law_any_text, [], []⟩
def d_law_cut : He.DefD := ⟨("_law_cut", none), "_law_cut", "_law_cut", defArgs s_law_cut, defBody s_law_cut, defScope s_law_cut, [], []⟩
def d_law_inside : He.DefD := ⟨("_law_inside", none), "_law_inside", "_law_inside", defArgs s_law_inside, defBody s_law_inside, defScope s_law_inside, [], []⟩
def d_law_edges : He.DefD := ⟨("_law_edges", none), "_law_edges", "_law_edges", defArgs s_law_edges, defBody s_law_edges, defScope s_law_edges, [], []⟩
def d_law_most_words : He.DefD := ⟨("_law_most_words", none), "_law_most_words", "_law_most_words", defArgs s_law_most_words, defBody s_law_most_words, defScope s_law_most_words, [], []⟩
def d_law_within : He.DefD := ⟨("_law_within", none), "_law_within", "_law_within", defArgs s_law_within, defBody s_law_within, defScope s_law_within, [], []⟩
def d_law_begins : He.DefD := ⟨("_law_begins", none), "_law_begins", "_law_begins", defArgs s_law_begins, defBody s_law_begins, defScope s_law_begins, [], []⟩
def d_law_moved : He.DefD := ⟨("_law_moved", none), "_law_moved", "_law_moved", defArgs s_law_moved, defBody s_law_moved, defScope s_law_moved, [], []⟩
def d_law : He.DefD := ⟨("law", none), "law", "law", defArgs s_law, defBody s_law, defScope s_law, [], []⟩
def d_Growth__init : He.DefD := ⟨("Growth", some "__init__"), "__init__", "Growth.__init__", defArgs s_Growth__init, defBody s_Growth__init, defScope s_Growth__init, [], []⟩
def d_Growth_read_letter : He.DefD := ⟨("Growth", some "_read_letter"), "_read_letter", "Growth._read_letter", defArgs s_Growth_read_letter, defBody s_Growth_read_letter, defScope s_Growth_read_letter, [], []⟩
def d_Growth_read : He.DefD := ⟨("Growth", some "read"), "read", "Growth.read", defArgs s_Growth_read, defBody s_Growth_read, defScope s_Growth_read, [], []⟩
def d_Cut__init : He.DefD := ⟨("Cut", some "__init__"), "__init__", "Cut.__init__", defArgs s_Cut__init, defBody s_Cut__init, defScope s_Cut__init, [], []⟩
def fn : List He.DefD := [d_are_unlike, d_inside_counts, d_fill, d_borders, d_spread, d_is_whole, d_is_letter, d_is_alphabet, d_check_alphabet, d_check_text, d_cut_of, d_check_rows, d_piece_texts, d_starts_of, d_law_whole, d_law_cell, d_law_digits, d_law_alphabet, d_law_doubling, d_law_two_before, d_law_counted, d_law_any_text, d_law_cut, d_law_inside, d_law_edges, d_law_most_words, d_law_within, d_law_begins, d_law_moved, d_law, d_Growth__init, d_Growth_read_letter, d_Growth_read, d_Cut__init]
def fa : List He.Fa := [.glo "are_unlike", .glo "inside_counts", .glo "fill", .glo "borders", .glo "spread", .glo "is_whole", .glo "is_letter", .glo "is_alphabet", .glo "check_alphabet", .glo "check_text", .glo "cut_of", .glo "_check_rows", .glo "_piece_texts", .glo "_starts_of", .glo "_law_whole", .glo "_law_cell", .glo "_law_digits", .glo "_law_alphabet", .glo "_law_doubling", .glo "_law_two_before", .glo "_law_counted", .glo "_law_any_text", .glo "_law_cut", .glo "_law_inside", .glo "_law_edges", .glo "_law_most_words", .glo "_law_within", .glo "_law_begins", .glo "_law_moved", .glo "law", .free "len", .free "int", .free "bool", .free "str", .free "list", .free "tuple", .free "range", .free "max", .free "min", .free "sum", .free "isinstance", .free "sorted", .free "repr", .free "abs", .free "enumerate", .str "LETTERS" LETS, .int "GREATEST_SIZE" 6, .cls "Growth", .noat "Growth" "rows", .noat "Growth" "at", .noat "Growth" "_numbers", .glo "Growth", .cls "Cut", .noat "Cut" "alphabet", .noat "Cut" "rows", .noat "Cut" "tail", .noat "Cut" "pieces", .noat "Cut" "many", .noat "Cut" "text", .noat "Cut" "starts", .glo "Cut", .mkr "Growth", .meth "Growth" "_read_letter", .meth "Growth" "read", .mkr "Cut"]
abbrev R : PySem.W.OpenRow := PySem.W.OpenLaw.row PySem.Challenge.rw_unpressed_k14_whole_within_longer_texts
abbrev hk : PySem.W.Hook := He.hookD 5 fa fn
def ob (s : PySem.W.SharedT) : He.AlD := He.obsDG 5 fa fn (HandSHeadRun.getT s)
theorem ob_eq (s : PySem.W.SharedT) : ob s = hk.obs s.abs := He.obsDG_eq (HandSHeadRun.getT_eq s)
abbrev loose : List Str := [("_wall" : Str), ("are_unlike" : Str), ("inside_counts" : Str), ("fill" : Str), ("borders" : Str), ("spread" : Str), ("_shown" : Str), ("PressError" : Str), ("BadAlphabet" : Str), ("BadLetter" : Str), ("BadRow" : Str), ("BadTail" : Str), ("LETTERS" : Str), ("GREATEST_SIZE" : Str), ("is_whole" : Str), ("is_letter" : Str), ("is_alphabet" : Str), ("check_alphabet" : Str), ("check_text" : Str), ("Growth" : Str), ("Cut" : Str), ("cut_of" : Str), ("_check_rows" : Str), ("_piece_texts" : Str), ("_starts_of" : Str), ("_law_whole" : Str), ("_law_cell" : Str), ("_law_digits" : Str), ("_law_alphabet" : Str), ("_law_doubling" : Str), ("_law_two_before" : Str), ("_law_counted" : Str), ("_law_any_text" : Str), ("_law_cut" : Str), ("_law_inside" : Str), ("_law_edges" : Str), ("_law_most_words" : Str), ("_law_within" : Str), ("_law_begins" : Str), ("_law_moved" : Str)]
theorem run (w : World) : HandSHeadRun.RunEq R (PySem.W.view R.prog [46]) hk ob 4000 loose w := by
  intro os
  kernel_rfl
theorem at_of {K : PySem.W.Frag} {mg : Str → Option Value} {h : Heap} (X : K.In h) (G : h.Ns mainGlobals mg) (c : He.SaysD fa fn K) (i : Nat) {x : Str} {st : Stmt} (h1 : fn[i]? = some ⟨(x, none), x, x, defArgs st, defBody st, defScope st, [], []⟩) (h2 : fa[i]? = some (.glo x)) : At K mg x st := by
  obtain ⟨fd, F⟩ := c.def_ i h1
  exact ⟨_, fd, F, He.glo_ok X G (c.fact i h2)⟩
theorem tt_of {K : PySem.W.Frag} {mg : Str → Option Value} {h : Heap} (X : K.In h) (G : h.Ns mainGlobals mg) (c : He.SaysD fa fn K) : TT mg := ⟨He.free_ok X G (c.fact 30 (f := .free "len") rfl), He.free_ok X G (c.fact 31 (f := .free "int") rfl), He.free_ok X G (c.fact 32 (f := .free "bool") rfl), He.free_ok X G (c.fact 33 (f := .free "str") rfl), He.free_ok X G (c.fact 34 (f := .free "list") rfl), He.free_ok X G (c.fact 35 (f := .free "tuple") rfl), He.free_ok X G (c.fact 36 (f := .free "range") rfl), He.free_ok X G (c.fact 37 (f := .free "max") rfl), He.free_ok X G (c.fact 38 (f := .free "min") rfl), He.free_ok X G (c.fact 39 (f := .free "sum") rfl), He.free_ok X G (c.fact 40 (f := .free "isinstance") rfl), He.free_ok X G (c.fact 41 (f := .free "sorted") rfl), He.free_ok X G (c.fact 42 (f := .free "repr") rfl), He.free_ok X G (c.fact 43 (f := .free "abs") rfl), He.free_ok X G (c.fact 44 (f := .free "enumerate") rfl)⟩
theorem tc_of {K : PySem.W.Frag} {mg : Str → Option Value} {h : Heap} (X : K.In h) (G : h.Ns mainGlobals mg) (c : He.SaysD fa fn K) : TC K mg (He.ga K "Growth") (He.ga K "Cut") where
  toTT := tt_of X G c
  gLETTERS := by
    obtain ⟨t, e⟩ := He.str_ok X G (c.fact 45 (f := .str "LETTERS" LETS) rfl)
    exact ⟨_, e, ⟨t, rfl⟩⟩
  gGREATEST_SIZE := by
    obtain ⟨t, e⟩ := He.int_ok X G (c.fact 46 (f := .int "GREATEST_SIZE" 6) rfl)
    exact ⟨_, e, ⟨t, rfl⟩⟩
  growth := He.cls_ok (c.fact 47 (f := .cls "Growth") rfl)
  nGr := He.noat_ok (c.fact 48 (f := .noat "Growth" "rows") rfl)
  nGa := He.noat_ok (c.fact 49 (f := .noat "Growth" "at") rfl)
  nGn := He.noat_ok (c.fact 50 (f := .noat "Growth" "_numbers") rfl)
  mGrowth := He.glo_ok X G (c.fact 51 (f := .glo "Growth") rfl)
  cut := He.cls_ok (c.fact 52 (f := .cls "Cut") rfl)
  nCa := He.noat_ok (c.fact 53 (f := .noat "Cut" "alphabet") rfl)
  nCr := He.noat_ok (c.fact 54 (f := .noat "Cut" "rows") rfl)
  nCt := He.noat_ok (c.fact 55 (f := .noat "Cut" "tail") rfl)
  nCp := He.noat_ok (c.fact 56 (f := .noat "Cut" "pieces") rfl)
  nCm := He.noat_ok (c.fact 57 (f := .noat "Cut" "many") rfl)
  nCx := He.noat_ok (c.fact 58 (f := .noat "Cut" "text") rfl)
  nCs := He.noat_ok (c.fact 59 (f := .noat "Cut" "starts") rfl)
  mCut := He.glo_ok X G (c.fact 60 (f := .glo "Cut") rfl)
theorem facts {P : Program} {w : World} {K : PySem.W.Frag} {h : Heap} {mg : Str → Option Value} {f : Addr} (X : K.In h) (G : h.Ns mainGlobals mg) (hfa : mg ("law" : Str) = some (.ref f)) (c : He.SaysD fa fn K) :
    ∃ fd : FuncData, (∀ (s : Shared) (v : Value), BindsTo s fd ⟨[v], []⟩ [("script", v)]) ∧ ∀ base : Heap, K.In base → base.Ns mainGlobals mg → FnOk P w K mg base CX0 7 f fd ["script"] (spLaw K) := by
  have A_are_unlike : At K mg "are_unlike" s_are_unlike := at_of X G c 0 rfl rfl
  have A_inside_counts : At K mg "inside_counts" s_inside_counts := at_of X G c 1 rfl rfl
  have A_fill : At K mg "fill" s_fill := at_of X G c 2 rfl rfl
  have A_borders : At K mg "borders" s_borders := at_of X G c 3 rfl rfl
  have A_spread : At K mg "spread" s_spread := at_of X G c 4 rfl rfl
  have A_is_whole : At K mg "is_whole" s_is_whole := at_of X G c 5 rfl rfl
  have A_is_letter : At K mg "is_letter" s_is_letter := at_of X G c 6 rfl rfl
  have A_is_alphabet : At K mg "is_alphabet" s_is_alphabet := at_of X G c 7 rfl rfl
  have A_check_alphabet : At K mg "check_alphabet" s_check_alphabet := at_of X G c 8 rfl rfl
  have A_check_text : At K mg "check_text" s_check_text := at_of X G c 9 rfl rfl
  have A_cut_of : At K mg "cut_of" s_cut_of := at_of X G c 10 rfl rfl
  have A_check_rows : At K mg "_check_rows" s_check_rows := at_of X G c 11 rfl rfl
  have A_piece_texts : At K mg "_piece_texts" s_piece_texts := at_of X G c 12 rfl rfl
  have A_starts_of : At K mg "_starts_of" s_starts_of := at_of X G c 13 rfl rfl
  have A_law_whole : At K mg "_law_whole" s_law_whole := at_of X G c 14 rfl rfl
  have A_law_cell : At K mg "_law_cell" s_law_cell := at_of X G c 15 rfl rfl
  have A_law_digits : At K mg "_law_digits" s_law_digits := at_of X G c 16 rfl rfl
  have A_law_alphabet : At K mg "_law_alphabet" s_law_alphabet := at_of X G c 17 rfl rfl
  have A_law_doubling : At K mg "_law_doubling" s_law_doubling := at_of X G c 18 rfl rfl
  have A_law_two_before : At K mg "_law_two_before" s_law_two_before := at_of X G c 19 rfl rfl
  have A_law_counted : At K mg "_law_counted" s_law_counted := at_of X G c 20 rfl rfl
  have A_law_any_text : At K mg "_law_any_text" s_law_any_text := at_of X G c 21 rfl rfl
  have A_law_cut : At K mg "_law_cut" s_law_cut := at_of X G c 22 rfl rfl
  have A_law_inside : At K mg "_law_inside" s_law_inside := at_of X G c 23 rfl rfl
  have A_law_edges : At K mg "_law_edges" s_law_edges := at_of X G c 24 rfl rfl
  have A_law_most_words : At K mg "_law_most_words" s_law_most_words := at_of X G c 25 rfl rfl
  have A_law_within : At K mg "_law_within" s_law_within := at_of X G c 26 rfl rfl
  have A_law_begins : At K mg "_law_begins" s_law_begins := at_of X G c 27 rfl rfl
  have A_law_moved : At K mg "_law_moved" s_law_moved := at_of X G c 28 rfl rfl
  have A_law : At K mg "law" s_law := at_of X G c 29 rfl rfl
  have A_Growth_init : AtI K (He.ga K "Growth") "Growth.__init__" s_Growth__init := by
    obtain ⟨fd, F⟩ := c.def_ 30 rfl
    exact ⟨_, fd, F, He.mkr_ok (c.fact 61 (f := .mkr "Growth") rfl)⟩
  have A_Growth_read_letter : AtM K (He.ga K "Growth") "_read_letter" "Growth._read_letter" s_Growth_read_letter := by
    obtain ⟨fd, F⟩ := c.def_ 31 rfl
    exact ⟨_, fd, F, He.meth_ok (c.fact 62 (f := .meth "Growth" "_read_letter") rfl)⟩
  have A_Growth_read : AtM K (He.ga K "Growth") "read" "Growth.read" s_Growth_read := by
    obtain ⟨fd, F⟩ := c.def_ 32 rfl
    exact ⟨_, fd, F, He.meth_ok (c.fact 63 (f := .meth "Growth" "read") rfl)⟩
  have A_Cut_init : AtI K (He.ga K "Cut") "Cut.__init__" s_Cut__init := by
    obtain ⟨fd, F⟩ := c.def_ 33 rfl
    exact ⟨_, fd, F, He.mkr_ok (c.fact 64 (f := .mkr "Cut") rfl)⟩
  have T : TC K mg (He.ga K "Growth") (He.ga K "Cut") := tc_of X G c
  have TT := T.toTT
  obtain ⟨f0, fd, F, hm⟩ := A_law.ex
  have e := hfa.symm.trans hm
  cases e
  have b := FunD.bindsA (ps := ["script"]) F fun _ _ _ _ _ _ us hl => match us, hl with | [_], _ => rfl
  refine ⟨fd, fun s v => b s [v] rfl, fun base _ _ => ?_⟩
  have D1 := ok_is_whole (P := P) (w := w) (base := base) TT A_is_whole
  have D2 := ok_is_letter (P := P) (w := w) (base := base) T A_is_letter
  have D3 := ok_is_alphabet (P := P) (w := w) (base := base) T A_is_alphabet
  have D4 := ok_check_alphabet D3 A_check_alphabet
  have D5 := ok_check_text (P := P) (w := w) (base := base) T A_check_text
  have D6 := ok_Growth_init (P := P) (w := w) (base := base) T A_Growth_init
  have D7 := ok_Growth_read_letter (P := P) (w := w) (base := base) T A_Growth_read_letter
  have D8 := ok_Growth_read T D7 A_Growth_read
  have D9 := ok_piece_texts (P := P) (w := w) (base := base) T A_piece_texts
  have D10 := ok_check_rows D1 D2 T A_check_rows
  have D11 := ok_starts_of (P := P) (w := w) (base := base) T A_starts_of
  have D12 := ok_Cut_init D4 D10 D1 D9 D11 T A_Cut_init
  have D13 := ok_cut_of D4 D5 D6 D8 D12 T A_cut_of
  have D14 := ok_law_whole (P := P) (w := w) (base := base) TT A_law_whole
  have D15 := ok_law_cell (P := P) (w := w) (base := base) TT A_law_cell
  have D16 := ok_law_digits (P := P) (w := w) (base := base) TT A_law_digits
  have D17 := ok_law_alphabet (P := P) (w := w) (base := base) TT A_law_alphabet
  have D18 := ok_law_doubling (P := P) (w := w) (base := base) TT A_law_doubling
  have D19 := ok_law_two_before (P := P) (w := w) (base := base) TT A_law_two_before
  have D20 := ok_law_counted (P := P) (w := w) (base := base) TT A_law_counted
  have D21 := ok_law_any_text TT A_law_any_text D18 D19 D20
  have D22 := ok_law_cut (P := P) (w := w) (base := base) T A_law_cut
  have D23 := ok_are_unlike (P := P) (w := w) (base := base) TT A_are_unlike
  have D24 := ok_inside_counts (P := P) (w := w) (base := base) T A_inside_counts
  have D25 := ok_fill (P := P) (w := w) (base := base) T A_fill
  have D26 := ok_borders (P := P) (w := w) (base := base) T A_borders
  have D27 := ok_spread D26 D25 D24 T A_spread
  have D28 := ok_law_inside (P := P) (w := w) (base := base) TT A_law_inside
  have D29 := ok_law_edges (P := P) (w := w) (base := base) TT A_law_edges
  have D30 := ok_law_most_words (P := P) (w := w) (base := base) TT A_law_most_words
  have D31 := ok_law_within D13 D14 D22 T A_law_within
  have D32 := ok_law_begins D13 D14 T A_law_begins
  have D33 := ok_law_moved (P := P) (w := w) (base := base) TT A_law_moved
  have DL := ok_law D15 D16 D17 D21 D13 D22 D14 D29 D30 D28 D27 D31 D32 D33 D23 T A_law
  obtain ⟨f1, fd1, F1, FO, hm1, _⟩ := DL.ex
  have e := hm.symm.trans hm1
  cases e
  have e2 : fd = fd1 := fd_one F F1
  rw [e2]
  exact FO
end My
open PySem PySem.W PySem.Calls PyProof.Rows
theorem PySem.Challenge.cw_unpressed_k14_whole_within_longer_texts_holds : PySem.Challenge.rw_unpressed_k14_whole_within_longer_texts.Holds := by
  w_on; o_law
  refine HandSHeadRun.head_any (r := OpenLaw.row PySem.Challenge.rw_unpressed_k14_whole_within_longer_texts) (q := view (OpenLaw.row PySem.Challenge.rw_unpressed_k14_whole_within_longer_texts).prog [46]) (H := My.hk) (ob := My.ob) (M := 4000) (loose := My.loose) (d := HandSHeadRun.topDef (OpenLaw.row PySem.Challenge.rw_unpressed_k14_whole_within_longer_texts).prog 46) (kwd := []) My.ob_eq
    (by kernel_rfl) (fun s => by kernel_rfl) My.run (by kernel_rfl) (by kernel_rfl) (by kernel_rfl) (by rfl) (by first | assumption | decide +kernel) (by decide +kernel) ⟨rfl, rfl, rfl, rfl, rfl, by decide +kernel⟩ ?hw ?hc
  case hw => w_witness2
  case hc =>
    refine L2.walk_ofE (l := PySem.Challenge.rw_unpressed_k14_whole_within_longer_texts) (n := 63) (k := 7) (x := "script") (CX := L2.CX0) rfl (by decide) (by kernel_rfl) ⟨rfl, by decide, by decide⟩ ?F (fun _ _ _ _ z => z)
    intro w mg fa h Y G hmg0
    obtain ⟨K, KX, c⟩ := Y
    have hmg : mg ("law" : PySem.Str) = some (.ref fa) := by
      have e : (HandSHeadRun.topDef (OpenLaw.row PySem.Challenge.rw_unpressed_k14_whole_within_longer_texts).prog 46).name = ("law" : PySem.Str) := by kernel_rfl
      rw [← e]
      exact hmg0
    obtain ⟨fd, hb, hF⟩ := My.facts (P := (PySem.Challenge.rw_unpressed_k14_whole_within_longer_texts).prog) (w := w) KX G hmg c
    exact ⟨K, fd, My.spLaw K, KX, hb, fun H a ns hl _ hS => ⟨a, ns, rfl, hS, fun _ => rfl⟩, hF⟩
