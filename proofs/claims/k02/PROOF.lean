import PyProof.Rows.All
import Wide.All
import OpenK.AllK
import Wide.FinOn
import PyProof.EqAt
import PyProof.EqKinds
import PyProof.TupleCall
import HandS.ForMost
import HandS.Property
import HandS.IsInst
import HandS.Replace
import HandS.Evl
import HandS.FStrTup
import PyProof.ListStr
import HandS.Codes
import HandS.Conv
import HandS.Deep
import HandS.NamedTupSort
import HandS.MakeKwOnly
import PyProof.InstNe
import HandS.TupMul
import HandS.ForExc
import HandS.HotCalls
import KE.KExcInit
import KE.KExcIs
import HandS.Lambda
import HandS.SetFor
import HandS.NoneIn
import HandS.EndTab
import KE.KNestM
import HandS.Text
import HandS.DictSub
import HandS.Sort
import KE.KRevSl
import HandS.FStr
import PySem.Challenge.RW_rowreaders_k02_whole_readers_made_and_re
set_option Elab.async false
set_option linter.all false
set_option maxRecDepth 100000
set_option maxHeartbeats 2000000
/-! rules of our own beside the hand layer's: calls by keywords alone, len of an own instance, repr of data, defs that are entered where no repr is under way -/
namespace Rw
open PySem PySem.Spec PyProof.Rows L2
section
variable {X : Cx} {CX : CXT} {k : Nat} {f C : Addr} {fd : FuncData} {ps ks : List Str} {sp : Sp} {E : XK} {x : Str} {p pos : Pos} {kws : List Keyword} {tk : TA} {ta : TE} {e : Expr}
  {g : List Value → List Value → List Value} {gV : List V → List V → List V}

theorem pe_callK0 (F : FnOk X.prog X.w X.K X.mg X.base CX k f fd ps sp) (room : Room k X.A) (glob : Gl X x) (known : X.mg x = some (.ref f))
    (keep : PySem.W.keepIn X.K (.ref f) = true) (kb : KBinds X.K fd ps ks g gV) (pass : Passes CX X E) (hkw : PK X kws tk)
    (hall : (backToKw pos (keywordEach kws X.env)).all (·.1.isSome) = true := by rfl)
    (hks : (backToKw pos (keywordEach kws X.env)).filterMap (·.1) = ks := by rfl)
    (hdb : (x == ("__debug__" : Str)) = false := by decide)
    (hpl : ((backTo pos (starEach [] X.env)).any (·.1) || (backToKw pos (keywordEach kws X.env)).any (·.1.isNone)) = false := by rfl) :
    PE X (.Call (.Name x p) [] kws pos) (tCallK sp gV E tNil tk) := by
  constructor
  intro pins s σ H Q I h
  refine wpAny_Call_Name_kw (ld_glob I glob known ?_ hdb)
  refine PySem.W.callWith_KW0 (h₀ := X.base) I.ok.mod.kin keep hall
    (thn (hkw.run pos pins s σ H _ I h) fun ws s2 hh => ?_) hpl
  obtain ⟨zs, H2, I2, rz, q2⟩ := hh
  refine ⟨I2.kIn, ?_⟩
  rw [hks]
  exact run_fnk (us := []) F room kb pass I2 .nil rz q2

/-- len(o), o an instance of the class at C whose __len__ is the def at f -/
def rLenO (C : Addr) (sp : Sp) (E : XK) : List V → Hp → VK → Prop := fun vs H Q => ∃ a dx fs, vs = [.ref a] ∧ H a = some (.ins C dx fs) ∧
  sp [.ref a] H (fun v H2 => ∃ n : Nat, v = .int (n : Int) ∧ (n : Int) < 2 ^ 63 ∧ Q (.int (n : Int)) H2) E
theorem call_lenO (F : FnOk X.prog X.w X.K X.mg X.base CX k f fd ps sp) (room : Room (k + 1) X.A)
    (own : PySem.W.findIn X.K (.ref C) "__len__" = some (some (.ref f))) (isf : PySem.W.isFn X.K (.ref f) = true)
    (b : L2.Binds X.K fd ps []) (pass : Passes CX X E) : CallR X (.builtin "len") (rLenO C sp E) := by
  intro pins s σ H xs us Q I r h
  obtain ⟨a, dx, fs, rfl, ha, hsp⟩ := h
  obtain ⟨u, rfl⟩ : ∃ u, us = [u] := by
    cases r with
    | cons p q => cases q; exact ⟨_, rfl⟩
  have ru : u = Value.ref a := by
    cases r with
    | cons p q => exact p
  subst ru
  obtain ⟨mA, O, _, _, _, _⟩ := ins_get I.hok ha
  obtain ⟨od, J, _⟩ := O.look
  obtain ⟨m, hF⟩ := I.fr
  refine PySem.W.len_K hF I.ok.mod.kin J own isf ?_
  have hl := F.len _ _ _ _ hsp
  refine wpAny_call (codeAny_mono (F.run X.A.in1 X.stack s H ⟨[.ref a], []⟩ [.ref a] [.ref a] _ E room.in1 I.env0.in1 (by
    have := b s [.ref a] I.kIn (by simpa using hl)
    simpa using this) (.cons rfl .nil) hsp) fun r s' hq => ?_)
  cases r with
  | error e => exact pass pins σ H s e s' I hq
  | ok fl =>
    cases fl with
    | ret w =>
      obtain ⟨z, H', I', rz, n, ez, hn, hQ⟩ := I.after hq
      subst ez
      obtain ⟨t, rfl⟩ := rz
      refine ⟨⟨Int.natCast_nonneg n, hn⟩, ?_⟩
      exact ⟨.int n, H', I'.tok _, ⟨_, rfl⟩, hQ⟩
    | next => exact False.elim hq
    | brk => exact False.elim hq
    | cont => exact False.elim hq

mutual
theorem noDict {K : PySem.W.Frag} {H : Hp} : ∀ (d : PyData) (v : V), Dp K H v d → d.hasDict = false
  | .none, _, _ => by simp only [PyData.hasDict]
  | .bool _, _, _ => by simp only [PyData.hasDict]
  | .int _, _, _ => by simp only [PyData.hasDict]
  | .str _, _, _ => by simp only [PyData.hasDict]
  | .list ds, _, h => by
    cases h with
    | lst _ a => simp only [PyData.hasDict]; exact noDicts ds _ a
  | .tuple ds, _, h => by
    cases h with
    | tup _ a => simp only [PyData.hasDict]; exact noDicts ds _ a
  | .dict _, _, h => by cases h
theorem noDicts {K : PySem.W.Frag} {H : Hp} : ∀ (ds : List PyData) (vs : List V), DpAll K H vs ds → PyData.hasDictAll ds = false
  | [], _, _ => by simp only [PyData.hasDictAll]
  | d :: ds, _, h => by
    cases h with
    | cons a b => simp only [PyData.hasDictAll, noDict d _ a, noDicts ds _ b, Bool.or_false]
end

/-- repr(x), x a list or a tuple of data, where no repr is under way -/
def rReprD (K : PySem.W.Frag) : List V → Hp → VK → Prop := fun vs H Q => ∃ a d, vs = [.ref a] ∧ Dp K H (.ref a) d ∧ d.showable = true ∧ d.depth ≤ 10 ∧ d.shown.length ≤ sizeLine ∧ Q (.str d.shown) H
theorem call_reprD (hg : X.A.guards = some []) (hr : Room k X.A) : CallR X (.builtin "repr") (rReprD X.K) := by
  intro pins s σ H xs us Q I r h
  obtain ⟨a, d, rfl, hd, hs, hdep, hsz, hQ⟩ := h
  obtain ⟨u, rfl⟩ : ∃ u, us = [u] := by
    cases r with
    | cons p q => cases q; exact ⟨_, rfl⟩
  have ru : u = Value.ref a := by
    cases r with
    | cons p q => exact p
  subst ru
  obtain ⟨as, R⟩ := Dp.reads I d _ _ hd rfl
  have hu := hr.units
  refine repr_of_reads' R hs (PyData.noDict_hsm (noDict d _ hd)) hg (by omega) (fun b o e => e) (fun h' u tk hk => ?_) hsz
  exact ⟨.str d.shown, H, I.kept hk, ⟨_, rfl⟩, hQ⟩
end

/-! ### the layer's rules with the written part named -/
section
variable {X : Cx} {K : PySem.W.Frag} {tg l a : Expr} {tl ta : TE} {pos : Pos}
theorem w_ixL (h : X.K = K := by rfl) : IxR X (rIxL K) := by subst h; exact ix_list
theorem w_ixT (h : X.K = K := by rfl) : IxR X (rIxT K) := by subst h; exact ix_tup
def rLenK (K : PySem.W.Frag) : List V → Hp → VK → Prop := fun xs H Q => ∃ x n, xs = [x] ∧ LenV K x H n ∧ Q (.int n) H
theorem w_len (h : X.K = K := by rfl) : CallR X (.builtin "len") (rLenK K) := by subst h; exact call_len
theorem w_in (h : X.K = K := by rfl) : OpR X (compareOp .In) (rIn K false) := by subst h; exact op_in_seq
theorem w_notIn (h : X.K = K := by rfl) : OpR X (compareOp .NotIn) (rIn K true) := by subst h; exact op_notIn_seq
theorem w_sum (hc : X.calm = true) (h : X.K = K := by rfl) : CallR X (.builtin "sum") (rSum K) := by subst h; exact cr_sum hc
theorem w_all (hc : X.calm = true) (h : X.K = K := by rfl) : CallR X (.builtin "all") (rAll K) := by subst h; exact cr_all hc
theorem w_any (hc : X.calm = true) (h : X.K = K := by rfl) : CallR X (.builtin "any") (rAny K) := by subst h; exact cr_any hc
def rListK (K : PySem.W.Frag) : List V → Hp → VK → Prop := fun xs H Q => ∃ p ys, xs = [.ref p] ∧ (SqL K H p ys ∨ SqT K H p ys) ∧ ∀ l, H l = none → Q (.ref l) (upd H l (.lst ys))
theorem w_list (h : X.K = K := by rfl) : CallR X (.type "list") (rListK K) := by subst h; exact call_list_of
def rTupK (K : PySem.W.Frag) : List V → Hp → VK → Prop := fun xs H Q => ∃ p ys, xs = [.ref p] ∧ ((SqL K H p ys ∧ ∀ l, H l = none → Q (.ref l) (upd H l (.tup ys))) ∨ (SqT K H p ys ∧ Q (.ref p) H))
theorem w_tuple (h : X.K = K := by rfl) : CallR X (.type "tuple") (rTupK K) := by subst h; exact call_tuple_of
theorem w_isi (h : X.K = K := by rfl) : CallR X (.builtin "isinstance") (rIsi K) := by subst h; exact call_isi
theorem w_slL (h : X.K = K := by rfl) : SlR X (rSlL K) := by subst h; exact sl_list
theorem w_slT (h : X.K = K := by rfl) : SlR X (rSlT K) := by subst h; exact sl_tup
theorem w_piL (hl : PE X l tl) (h : X.K = K := by rfl) : PI X tg l (iList K tl) := by subst h; exact pi_list hl
theorem w_piT (hl : PE X l tl) (h : X.K = K := by rfl) : PI X tg l (iTup K tl) := by subst h; exact pi_tup hl
theorem w_tup {es : List Expr} {k : Nat} {t : TGs} {n : Nat} (hc : X.calm = true) (hs : PGs X es t) (h : X.K = K := by rfl)
    (hn : (assignEach es X.env).length = n := by rfl) (hst : (assignEach es X.env).findIdx? (·.1) = none := by rfl) : PG X (.Tuple es k pos) (gTup K n t) := by subst h; exact pg_tup hc hs hn hst
def tTruK (K : PySem.W.Frag) (ta : TE) : TT := fun σ H Q => ta σ H fun x H' => ∃ k, TruV K x H' k ∧ Q k H'
theorem w_truth (ha : PE X a ta) (he : ∀ whole, isTrue a X.env whole = (do let v ← whole; standAt a.pos; holding [v] (truthy v))) (h : X.K = K := by rfl) : PT X a (tTruK K ta) := by subst h; exact pt_truth ha he
theorem w_eqD (hu : X.A.units + 64 < cLine) (h : X.K = K := by rfl) : OpR X (compareOp .Eq) (rEqD K) := by subst h; exact op_eqD hu
theorem w_neD (hu : X.A.units + 64 < cLine) (h : X.K = K := by rfl) : OpR X (compareOp .NotEq) (rNeD K) := by subst h; exact op_neD hu
theorem w_reprD {k : Nat} (hg : X.A.guards = some []) (hr : Room k X.A) (h : X.K = K := by rfl) : CallR X (.builtin "repr") (rReprD K) := by subst h; exact call_reprD hg hr
end
/-! ### a def that is entered where no repr is under way -/
structure FnOkG (P : Program) (w : World) (K : PySem.W.Frag) (mg : Str → Option Value) (base : Heap) (k : Nat) (f : Addr) (fd : FuncData) (ps : List Str) (sp : Sp) : Prop where
  len : ∀ vs H Q E, sp vs H Q E → vs.length = ps.length
  run : ∀ (A : Around) (outer : List Env) (s : Shared) (H : Hp) (args : Args) (us : List Value) (vs : List V) (Q : VK) (E : XK), A.guards = some [] → Room k A →
    Env0 P w K mg base A outer s H → BindsTo s fd args (ps.zip us) → Vals vs us → sp vs H Q E → codeAny (model P w) A (.call (.ref f) args) (CR CX0 outer P w H s Q E) s
section
variable {P : Program} {w : World} {K : PySem.W.Frag} {mg : Str → Option Value} {base : Heap} {f : Addr} {fd : FuncData} {N ps : List Str} {k : Nat} {sp : Sp} {x qual : Str} {st : Stmt}
theorem okG (F : Fun K x qual st f fd) (S : FnScope N ps (defScope st)) (len : ∀ vs H Q E, sp vs H Q E → vs.length = ps.length)
    (hbody : ∀ (cdv : Value) (A : Around) (outer : List Env) (s : Shared) (H : Hp) (vs : List V) (Q : VK) (E : XK), A.guards = some [] →
      Room k (A.deeper (envOfC qual (defScope st) s.heap.objs.size f cdv)) → sp vs H Q E →
      ∃ t, PSs (cxOf CX0 P w K mg base N qual (defScope st) f cdv A outer s H E).nox (defBody st) t ∧ t { nx := fun _ H' => Q .non H', rt := Q } (start N vs) H) :
    FnOkG P w K mg base (k + 1) f fd ps sp := by
  obtain ⟨oc, od, kV, doc, pm, an, cdv, ct, osl, rfl, lk, hcd⟩ := F.ex
  refine ⟨len, fun A outer s H args us vs Q E hg hr e0 hb r hsp => ?_⟩
  have hl := len _ _ _ _ hsp
  have inn : K.In s.heap := e0.mod.kin.keeps (fun b o e => (e0.bs b o e).1)
  have nolim : s.heap.NoLimit := e0.mod.nolimit.keeps (fun b o e => (e0.bs b o e).1)
  have kinds : ∀ y ∈ ps.zip us, (defScope st).names.lookup y.1 = some .local ∨
      ((defScope st).names.lookup y.1 = some .cell ∧ ((cellsFrom (s.heap.objs.size + 1) (defScope st).names []).lookup y.1).isSome = true) := by
    rintro ⟨n, v⟩ hy
    rcases S.par n (List.of_mem_zip hy).1 with q | q
    · exact .inl q
    · exact .inr ⟨q, PySem.W.cellsFrom_some _ _ _ (.inl q)⟩
  refine codeAny_call_function hr.depth (inn _ _ lk) rfl S.co S.gen rfl (PySem.W.codeRec_of inn hcd) (hb _ _ _ _ ?_)
  refine wpAny_newFunctionEnv_cells S.kind kinds (fun env he s1 x => ?_)
  subst he
  refine ⟨nolim.keeps x.toInCall.keep, codeAny_func ?_⟩
  obtain ⟨t, ht, hq⟩ := hbody cdv A outer s H vs Q E hg (hr.deeper _) hsp
  have I := inv_start (CX := CX0) (P := P) (w := w) (K := K) (mg := mg) (base := base) (qual := qual) (f := f) (cd := cdv) (E := E) S hr.hd e0 hl r x
  refine wpAny_mono (ht.nox.run [] s1 (start N vs) H _ I hq) (fun fl s' hs => ?_) (fun e s' hs => hs)
  cases fl with
  | ret u =>
    obtain ⟨v, σ', H', J, rv, q⟩ := hs
    exact ⟨v, H', J.os, J.bare, J.base, J.hok, rv, q⟩
  | next =>
    obtain ⟨σ', H', J, q⟩ := hs
    exact ⟨V.non, H', J.os, J.bare, J.base, J.hok, rfl, q⟩
  | brk =>
    obtain ⟨_, _, _, q⟩ := hs
    exact False.elim q
  | cont =>
    obtain ⟨_, _, _, q⟩ := hs
    exact False.elim q
end
section
variable {X : Cx} {k : Nat} {f : Addr} {fd : FuncData} {ps : List Str} {sp : Sp} {x : Str} {p pos : Pos} {e : Expr} {es : List Expr} {t : TA}
theorem pe_callG (F : FnOkG X.prog X.w X.K X.mg X.base k f fd ps sp) (hgd : X.A.guards = some []) (room : Room k X.A) (glob : Gl X x) (known : X.mg x = some (.ref f))
    (keep : PySem.W.keepIn X.K (.ref f) = true) (b : L2.Binds X.K fd ps []) (ha : PA X (e :: es) t)
    (hdb : (x == ("__debug__" : Str)) = false := by decide) (he : starEach (e :: es) X.env = (false, eval e X.env) :: starEach es X.env := by rfl)
    (hpl : (backTo pos (starEach es X.env)).any (·.1) = false := by rfl) : PE X (.Call (.Name x p) (e :: es) [] pos) (tCall sp [] E0 t) := by
  constructor
  intro pins s σ H Q I h
  refine wpAny_Call_Name_kw (ld_glob I glob known ?_ hdb)
  refine PySem.W.callWith_K (h₀ := X.base) I.ok.mod.kin keep (thn (ha.run pos pins s σ H _ I h) fun us s1 hh => ?_) he hpl
  obtain ⟨vs, H1, I1, r, q⟩ := hh
  refine ⟨I1.kIn, ?_⟩
  have q : sp (vs ++ []) H1 Q E0 := q
  rw [List.append_nil] at q
  have hl : us.length = ps.length := by rw [← r.length]; exact F.len _ _ _ _ q
  refine wpAny_call (codeAny_mono (F.run X.A X.stack s1 H1 ⟨us, []⟩ us vs Q E0 hgd room I1.env0 (by
    have := b s1 us I1.kIn (by simpa using hl)
    simpa using this) r q) fun r s' hq => ?_)
  cases r with
  | error e => exact False.elim hq
  | ok fl =>
    cases fl with
    | ret u => exact I1.after hq
    | next => exact False.elim hq
    | brk => exact False.elim hq
    | cont => exact False.elim hq
end

/-! ### the law's call from above, for such a def -/
section
variable {P : Program} {w : World} {K : PySem.W.Frag} {mg mb : Str → Option Value} {k : Nat} {fa a : Addr} {fd : FuncData} {x : Str} {sp : Sp} {s1 : Shared} {vs : List Value} {ns : List Int}
abbrev Fin1 (s1 : Shared) (r : Result) (s' : Shared) : Prop := r = .ok (.ret (.bool true)) ∧ PySem.OldK s1.heap s'.heap ∧ s'.os = s1.os ∧ AllBare s'.gens
theorem callG_core (KX : K.In s1.heap) (nsg : s1.heap.Ns mainGlobals mg) (nsb : s1.heap.Ns builtinsNs mb) (boot : ∀ x : Str, x ≠ "__name__" → mb x = bootBuiltins x)
    (lim : s1.heap.NoLimit) (noGens : s1.gens = #[]) (obj : s1.heap.get? a = some { cls := .type "list", data := .seq vs.toArray }) (room : Room k callerA)
    (F : ∀ base : Heap, K.In base → base.Ns mainGlobals mg → FnOkG P w K mg base k fa fd [x] sp) (bind : ∀ (s : Shared) (u : Value), BindsTo s fd ⟨[u], []⟩ [(x, u)])
    (H : Hp) (only : Only H) (hsp : sp [.ref a] H (fun v _ => v = .bl true) fun _ _ _ => False) (ok : HOk P w H s1.heap) (onlyA : ∀ b, H b ≠ none → b = a) (outK : H a ≠ none → K.lookup a = none) :
    codeAny (model P w) callerA (.call (.ref fa) ⟨[.ref a], []⟩) (Fin1 s1) s1 := by
  have keepsB : ∀ {b : Addr} {o : Obj}, s1.heap.get? b = some o → H b = none → (hidT s1.heap H).get? b = some o := fun e n => hidT_get e n
  have isA : ∀ {b : Addr} {u : HO}, H b = some u → b = a := fun {b u} q => onlyA b (by rw [q]; simp)
  have dictNo : ∀ {b : Addr} {o : Obj} {es : Array DictEntry} {ep : Nat}, s1.heap.get? b = some o → o.data = .dict es ep → H b = none := by
    intro b o es ep e d
    cases q : H b with
    | none => rfl
    | some u =>
      have z := isA q
      subst z
      rw [obj] at e
      cases e
      exact absurd (show Data.seq vs.toArray _ = Data.dict es ep from d) (by intro y; cases y)
  have nsK : ∀ {b : Addr} {m : Str → Option Value}, s1.heap.Ns b m → (hidT s1.heap H).Ns b m := by
    rintro b m ⟨o, es, ep, e, d, r⟩
    exact ⟨o, es, ep, keepsB e (dictNo e d), d, r⟩
  have inB : K.In (hidT s1.heap H) := by
    intro b o e
    refine keepsB (KX b o e) ?_
    cases q : H b with
    | none => rfl
    | some u =>
      have z := isA q
      subst z
      rw [outK (by rw [q]; simp)] at e
      cases e
  have md : Mod K mg (hidT s1.heap H) := by
    obtain ⟨mc, h1, h2⟩ := lim
    exact ⟨inB, nsK nsg, ⟨mb, nsK nsb, boot⟩, ⟨mc, nsK h1, h2⟩⟩
  have e0 : Env0 P w K mg (hidT s1.heap H) callerA [] s1 H := by
    refine ⟨rfl, md, fun b o e => of_hidT e, Nat.le_of_eq (hidT_size _ _), trivial, ?_, ok, .of_eq noGens⟩
    intro b hb
    exact absurd (show b ∈ ([] : List Addr) from hb) (by simp)
  refine codeAny_mono ((F _ inB (nsK nsg)).run callerA [] s1 H ⟨[.ref a], []⟩ [.ref a] [.ref a] _ _ rfl room e0 (bind s1 (.ref a)) (.cons rfl .nil) hsp) ?_
  intro r s' h
  cases r with
  | error e => exact False.elim h
  | ok fl =>
    cases fl with
    | next => exact False.elim h
    | brk => exact False.elim h
    | cont => exact False.elim h
    | ret u =>
      obtain ⟨v, H', os, bare, un, ok', rv, q⟩ := h
      have q : v = .bl true := q
      subst q
      have ru : u = Value.bool true := rv
      subst ru
      refine ⟨rfl, PySem.OldK.of_keep (fun b o e => ?_), os, bare⟩
      cases q : H b with
      | none => exact un.keep b o e q (fun z => absurd (show b ∈ ([] : List Addr) from z) (by simp)) (by simp)
      | some u =>
        rcases only b with z | ⟨ob, xs, z⟩
        · rw [q] at z
          cases z
        · obtain ⟨e1, _⟩ := ok b _ z
          obtain ⟨e2, _⟩ := ok' b _ (un.frzs b ob _ z)
          rw [e] at e1
          cases e1
          exact e2
theorem callG (KX : K.In s1.heap) (nsg : s1.heap.Ns mainGlobals mg) (nsb : s1.heap.Ns builtinsNs mb) (boot : ∀ x : Str, x ≠ "__name__" → mb x = bootBuiltins x)
    (lim : s1.heap.NoLimit) (noGens : s1.gens = #[]) (obj : s1.heap.get? a = some { cls := .type "list", data := .seq vs.toArray }) (hi : IntsAre vs ns) (hl : ns.length ≤ sizeLine) (room : Room k callerA)
    (F : ∀ base : Heap, K.In base → base.Ns mainGlobals mg → FnOkG P w K mg base k fa fd [x] sp) (bind : ∀ (s : Shared) (u : Value), BindsTo s fd ⟨[u], []⟩ [(x, u)])
    (hsp : ∀ H : Hp, Only H → SqL K H a (ns.map V.int) → sp [.ref a] H (fun v _ => v = .bl true) fun _ _ _ => False) :
    codeAny (model P w) callerA (.call (.ref fa) ⟨[.ref a], []⟩) (Fin1 s1) s1 := by
  have rv := vals_ints hi
  have lenV := hi.length
  cases hk : K.lookup a with
  | some o =>
    have e := KX a o hk
    rw [obj] at e
    cases e
    have only : Only (fun _ => none) := fun _ => .inl rfl
    refine callG_core KX nsg nsb boot lim noGens obj room F bind (fun _ => none) only (hsp _ only ?_) (fun b u z => ?_) (fun b z => absurd rfl z) (fun z => absurd rfl z)
    · exact .inr ⟨_, vs.toArray, _, hk, rfl, rfl, rfl, by rw [List.size_toArray, lenV]; exact hl, by simpa using rv⟩
    · have z : (none : Option HO) = some u := z
      cases z
  | none =>
    have only : Only (fun b => if b = a then some (.frz { cls := .type "list", data := .seq vs.toArray } (.lst (ns.map V.int))) else none) := by
      intro b
      by_cases hb : b = a
      · exact .inr ⟨_, _, if_pos hb⟩
      · exact .inl (if_neg hb)
    refine callG_core KX nsg nsb boot lim noGens obj room F bind _ only (hsp _ only ?_) (fun b u z => ?_) (fun b z => ?_) (fun _ => hk)
    · exact .inl (.inr ⟨{ cls := .type "list", data := .seq vs.toArray }, if_pos rfl⟩)
    · by_cases hb : b = a
      · have z' := (if_pos hb).symm.trans z
        cases z'
        subst hb
        exact ⟨obj, by rw [List.length_map]; exact hl, vs, _, rv, obj⟩
      · have z' := (if_neg hb).symm.trans z
        cases z'
    · by_cases hb : b = a
      · exact hb
      · exact absurd (if_neg hb) z
theorem walkG {l : PySem.W.OpenLaw} {n k : Nat} {q : Program} {loose : List Str} {XP : (Str → Option Value) → Heap → Prop} {YP : World → Heap → Prop} {d : DefRec} {K : Params → PySem.W.Frag} {sp : PySem.W.Frag → Sp} {x : Str}
    (hn : l.most = some n) (hn2 : n ≤ sizeLine) (hdf : d.params.defaults = []) (room : Room k callerA) (hY : ∀ (w : World) (h : Heap), YP w h → (K w.params).In h)
    (F : ∀ (w : World) (mg : Str → Option Value) (fa : Addr) (h : Heap), (K w.params).In h → h.Ns mainGlobals mg → mg d.name = some (.ref fa) →
      ∃ fd : FuncData, (∀ (s : Shared) (u : Value), BindsTo s fd ⟨[u], []⟩ [(x, u)]) ∧
        ∀ base : Heap, (K w.params).In base → base.Ns mainGlobals mg → FnOkG l.prog w (K w.params) mg base k fa fd [x] (sp (K w.params)))
    (hsp : ∀ (K : PySem.W.Frag) (H : Hp) (a : Addr) (ns : List Int), ns.length ≤ n → Only H → SqL K H a (ns.map V.int) → sp K [.ref a] H (fun v _ => v = .bl true) fun _ _ _ => False) :
    PySem.W.WalkO q loose XP YP l.row.toRowW d [] (fun f vs => PySem.call f vs) := by
  refine Att.attach_call hn hdf (fun w s0 s1 mg mb fa o pm cd doc a vs ns G Y ho hd hcd hmg hobj hints hlen hg => ?_)
  have KX := hY w _ Y
  obtain ⟨fd, hb, hF⟩ := F w mg fa _ KX G.T.g hmg
  exact callG KX G.T.g G.T.b G.T.builtins G.T.nolimit hg hobj hints (Nat.le_trans hlen hn2) room hF hb (fun H hO hS => hsp (K w.params) H a ns hlen hO hS)
end
end Rw

set_option Elab.async false
set_option linter.all false
namespace Rw
open PySem PySem.Spec PyProof.Rows L2
section
variable {X : Cx} {K : PySem.W.Frag}
/-- an item read of a list, by a place that counts from its beginning -/
def rGetL (K : PySem.W.Frag) : V → V → Hp → VK → Prop := fun x y H Q => ∃ p xs i v, x = .ref p ∧ y = .int i ∧ SqL K H p xs ∧ 0 ≤ i ∧ atI xs i = some v ∧ Q v H
theorem w_getL (h : X.K = K := by rfl) : PGet X (rGetL K) := by
  subst h
  intro pins s σ H x y v u Q I rx ry h
  obtain ⟨p, xs, i, z, rfl, rfl, hq, h0, he, q⟩ := h
  cases rx
  obtain ⟨t, rfl⟩ := ry
  obtain ⟨its, r, pl, hz⟩ := I.list hq
  obtain ⟨j, h1, h2, h3, h4, h5⟩ := atI_get he
  obtain ⟨w, ew, rw'⟩ := r.get h2
  have hl := r.length
  have hn := line63
  have hj : i.toNat = j := by
    rw [seqIndex_of h0 h5] at h1
    exact Option.some.inj h1
  exact wpAny_getItem_list pl.isList h0 (by omega) (by rw [hj]; simpa using ew) ⟨z, H, I, rw', q⟩
/-- a walk along a list or a tuple -/
def iSeq (K : PySem.W.Frag) (tl : TE) : TI := fun σ H R => iList K tl σ H R ∨ iTup K tl σ H R
theorem w_piS {tg l : Expr} {tl : TE} (hl : PE X l tl) (h : X.K = K := by rfl) : PI X tg l (iSeq K tl) := by
  subst h
  refine ⟨fun pins s σ H R I q => ?_⟩
  rcases q with q | q
  · exact (pi_list hl).run pins s σ H R I q
  · exact (pi_tup hl).run pins s σ H R I q
end
end Rw

set_option Elab.async false
set_option linter.all false
set_option maxRecDepth 100000
set_option maxHeartbeats 2000000
namespace Rw
open PySem PySem.Spec PyProof.Rows L2
section
variable {X : Cx} {K : PySem.W.Frag}
def signV (z : Str) : List V := z.cps.toList.map fun c => V.str ⟨#[c]⟩
theorem vals_signs {z : Str} {acc : Array Value} (h : ItemsOf (SignAt z) acc z.cps.size) : Vals (signV z) acc.toList := by
  refine vals_of_at (by unfold signV; rw [List.length_map, Array.length_toList, Array.length_toList]; exact h.1.symm) fun j x u h1 h2 => ?_
  unfold signV at h1
  rw [List.getElem?_map] at h1
  rw [Array.getElem?_toList] at h2 h1
  obtain ⟨c, t, e, rfl⟩ := h.2 j u h2
  rw [e] at h1
  obtain rfl := Option.some.inj h1
  exact ⟨t, rfl⟩
/-- list(a text) -/
theorem call_listS (hc : X.calm = true) : CallR X (.type "list") (fun xs H Q => ∃ z : Str, xs = [.str z] ∧ z.length ≤ sizeLine ∧ ∀ p, H p = none → Q (.ref p) (upd H p (.lst (signV z)))) := by
  intro pins s σ H xs us Q I r h
  obtain ⟨z, rfl, hz, q⟩ := h
  obtain ⟨u, rfl⟩ : ∃ u, us = [u] := by
    cases r with
    | cons p q => cases q; exact ⟨_, rfl⟩
  obtain ⟨t, rfl⟩ : ∃ t, u = .str z t := by
    cases r with
    | cons p q => exact p
  refine PySem.call_list_str (I.ok.hd hc) z t (fun h' tk acc c' hk e' hi => ?_) hz
  refine ⟨.ref s.heap.objs.size, upd H s.heap.objs.size (.lst (signV z)), I.laid hk (Nat.le_refl _) (show ObjOk X.prog X.w _ _ _ (.lst (signV z)) from ⟨?_, acc.toList, c', vals_signs hi, ?_⟩), rfl, q _ (I.hok.fresh (Nat.le_refl _))⟩
  · unfold signV
    rw [List.length_map, Array.length_toList]
    exact hz
  · rw [Array.toArray_toList]; exact e'
theorem w_bm {o : Expr} {name : Str} {apos cpos : Pos} {e : Expr} {es : List Expr} {T id : String} {r : V → List V → Hp → VK → Prop} {to : TE} {t : TA} (pa : PlainAttrs T) (slot : Slot T name id) (hty : typeOf (.builtin id) = pure (.type "method_descriptor")) (hm : MtR X id r)
    (ho : PE X o to) (ha : PA X (e :: es) t) (h : X.K = K := by rfl)
    (hbase : attributeBase o name X.env (eval o X.env) = eval o X.env := by rfl)
    (hfew : ((backTo cpos (starEach (e :: es) X.env)).all (fun x => !x.1) && (backToKw cpos (keywordEach [] X.env)).all (fun x => x.1.isSome)
      && decide ((e :: es).length + ([] : List Keyword).length + (if ([] : List Keyword).isEmpty then 0 else 1) < 30)) = true := by rfl)
    (hline : (apos.endLine == cpos.line) = true := by rfl) (hs : starEach (e :: es) X.env = (false, eval e X.env) :: starEach es X.env := by rfl) (hplain : (backTo cpos (starEach es X.env)).any (·.1) = false := by rfl) :
    PE X (.Call (.Attribute o name apos) (e :: es) [] cpos) (tBM K T r to t) := by subst h; exact pe_bm pa slot hty hm ho ha hbase hfew hline hs hplain
theorem w_ixA (h : X.K = K := by rfl) : IxR X (rIx K) := by subst h; exact ix_seq
theorem w_maxL (hc : X.calm = true) (h : X.K = K := by rfl) : CallR X (.builtin "max") (rMax K) := by subst h; exact cr_max hc
end
end Rw

set_option Elab.async false
set_option linter.all false
set_option maxRecDepth 100000
set_option maxHeartbeats 2000000
/-! rules of our own: == and != by an own __eq__, of any outcome -/
namespace Rw
open PySem PySem.Spec PyProof.Rows L2
section
variable {prog : Program} {w : World} {A A₀ : Around} {E : Value → Shared → Prop} {s : Shared} {K : PySem.W.Frag} {x C L f : Addr} {h₀ : Heap} {m : Str → Option Value} {ox : Obj} {od : Option Obj} {b tb : Value}
theorem ne_call {Q : Value → Shared → Prop} (hu : A.in1.units < cLine) (X : K.In s.heap) (I : PySem.W.InstAt s.heap x ox C od) (hm : PySem.W.mroIn K C (.type "object") = some true)
    (hs : PySem.W.findIn K (.ref C) "__eq__" = some (some (.ref f))) (hf : PySem.W.isFn K (.ref f) = true)
    (h : wpAny (model prog w) A.in1 (call (.ref f) [.ref x, b]) (fun v s' => ∃ c, v = .bool c ∧ Q (.bool (!c)) s') E s) : wpAny (model prog w) A (call (.builtin "object.__ne__") [.ref x, b]) Q E s := by
  have iv : PySem.W.Looks (model prog w) s.heap (isInstance (.ref x) (.type "object")) true := I.type.andThen (PySem.W.looks_mroIn X hm)
  refine wpAny_call (codeAny_call_builtin PySem.F.cmp_object.ne.plain PySem.F.cmpEntry_ne (@PySem.W.check_slot (model prog w) _ _ _ "object.__ne__" "object" "__ne__" (.ref x) [b] [] _ (by decide +kernel) (by decide +kernel) iv (PySem.F.cmpArgs_ne _ _) ?_))
  unfold Builtin.«object.__ne__»
  repeat (first
    | with_reducible refine wpAny_cRoomFor hu ?_
    | (refine wpAny_bind (m := callSpecialIfBound? (.ref x) (Str.ofString "__eq__") [b])
        (PySem.W.ifBound_K X I hs hf (wpAny_mono h (fun r s' hr => by
          obtain ⟨c, rfl, hq⟩ := hr
          repeat (first | exact hq | exact wpAny_pure hq | exact wpAny_truthy_bool hq | (refine wpAny_bind (m := truthy (.bool _)) (wpAny_truthy_bool ?_)) | wp_step)) fun _ _ e => e)))
    | wp_step)
theorem cmpNe_K {Q : Value → Shared → Prop} (hu : A.units < cLine) (hu1 : A.in1.units < cLine) (F : Fr h₀ L s.heap m) (X₀ : K.In h₀) (I : PySem.W.InstAt s.heap x ox C od) (hb : PySem.W.Looks (model prog w) s.heap (typeOf b) tb) (hn : PySem.W.notFirst K C tb = true)
    (hne : PySem.W.findIn K (.ref C) "__ne__" = some (some (.builtin "object.__ne__"))) (hm : PySem.W.mroIn K C (.type "object") = some true)
    (hs : PySem.W.findIn K (.ref C) "__eq__" = some (some (.ref f))) (hf : PySem.W.isFn K (.ref f) = true)
    (h : wpAny (model prog w) A.in1 (call (.ref f) [.ref x, b]) (fun v s' => ∃ c, v = .bool c ∧ Q (.bool (!c)) s') E s) : wpAny (model prog w) A (richCompare .NotEq (.ref x) b) Q E s := by
  have X := X₀.keeps F.keep
  have sp : PySem.W.Looks (model prog w) s.heap (specialOf (.ref x) "__ne__") (some (.builtin "object.__ne__")) := I.type.andThen (PySem.W.looks_findIn X hne)
  have one : wpAny (model prog w) A (tryCompare (.ref x) "__ne__" b) (fun r s' => ∃ v, r = some v ∧ Q v s') E s := by
    unfold tryCompare
    refine wpAny_bind (NtL.csib sp rfl (ne_call hu1 X I hm hs hf (wpAny_mono h (fun v s' hv => ?_) fun _ _ e => e)))
    obtain ⟨c, rfl, q⟩ := hv
    exact ⟨c, rfl, wpAny_pure ⟨_, rfl, q⟩⟩
  unfold richCompare
  simp only [oneThing_ref]
  refine wpAny_holding (wpAny_bind (wpAny_cRoomFor hu ?_))
  refine wpAny_bind (I.type.here (wpAny_bind (hb.here ?_)))
  split
  · rename_i q
    have e : PySem.W.subIn K tb (.ref C) = some false := by
      rcases Bool.or_eq_true_iff.mp hn with e | e
      · rw [beq_iff_eq.mp e] at q; simp at q
      · exact beq_iff_eq.mp e
    refine wpAny_bind ((PySem.W.looks_subIn X e).here ?_)
    simp only [Bool.false_eq_true, if_false]
    refine wpAny_bind (wpAny_mono one (fun r s' z => ?_) fun _ _ e => e)
    obtain ⟨v, rfl, hq⟩ := z
    exact wpAny_pure hq
  · refine wpAny_bind (wpAny_pure ?_)
    simp only [Bool.false_eq_true, if_false]
    refine wpAny_bind (wpAny_mono one (fun r s' z => ?_) fun _ _ e => e)
    obtain ⟨v, rfl, hq⟩ := z
    exact wpAny_pure hq
end
section
variable {X : Cx} {CX : CXT} {k : Nat} {f C : Addr} {fd : FuncData} {ps : List Str} {sp : Sp} {E : XK}
/-- what may stand at the right of an own == -/
def Beside (K : PySem.W.Frag) (C : Addr) (y : V) (H : Hp) : Prop :=
  (∃ b D dy gs, y = .ref b ∧ H b = some (.ins D dy gs) ∧ PySem.W.notFirst K C (.ref D) = true) ∨ ∃ b xs, y = .ref b ∧ SqT K H b xs ∧ PySem.W.notFirst K C (.type "tuple") = true
theorem Beside.look {pins : List (Addr × Obj)} {σ : L2.St} {H : Hp} {s : Shared} {y : V} {u : Value} (I : Inv X pins σ H s) (r : RelV y u) (h : Beside X.K C y H) :
    ∃ b tb, u = .ref b ∧ PySem.W.Looks (model X.prog X.w) s.heap (typeOf u) tb ∧ PySem.W.notFirst X.K C tb = true := by
  rcases h with ⟨b, D, dy, gs, rfl, hb, hn⟩ | ⟨b, xs, rfl, hb, hn⟩
  · cases r
    obtain ⟨mB, J', _⟩ := ins_get I.hok hb
    obtain ⟨od', J', _⟩ := J'.look
    exact ⟨b, _, rfl, J'.type, hn⟩
  · cases r
    obtain ⟨its, r, ⟨o, ho, hc, _⟩, hs⟩ := I.tuple hb
    refine ⟨b, .type "tuple", rfl, ?_, hn⟩
    rw [← hc]
    exact (PySem.W.Looks.ld ho).andThen .now
def rEqO (C : Addr) (K : PySem.W.Frag) (sp : Sp) (E : XK) (neg : Bool) : R2 := fun x y H Q => ∃ a dx fs, x = .ref a ∧ H a = some (.ins C dx fs) ∧ Beside K C y H ∧ sp [x, y] H (fun v H2 => ∃ c, v = .bl c ∧ Q (.bl (if neg = true then !c else c)) H2) E
theorem op_eqO (F : FnOk X.prog X.w X.K X.mg X.base CX k f fd ps sp) (room : Room (k + 1) X.A)
    (hs : PySem.W.findIn X.K (.ref C) "__eq__" = some (some (.ref f))) (hf : PySem.W.isFn X.K (.ref f) = true) (hb : L2.Binds X.K fd ps []) (hx : Passes CX X E) : OpR X (compareOp .Eq) (rEqO C X.K sp E false) := by
  intro pins s σ H x y v u Q I rx ry h
  obtain ⟨a, dx, fs, rfl, ha, hbs, hsp⟩ := h
  cases rx
  obtain ⟨b, tb, rfl, lk, hn⟩ := hbs.look I ry
  obtain ⟨mA, J, _⟩ := ins_get I.hok ha
  obtain ⟨od, J, _⟩ := J.look
  obtain ⟨m, hF⟩ := I.fr
  refine PySem.W.cmp_K (op := .Eq) (tb := tb) room.units0 hF I.ok.mod.kin J lk hn hs hf ?_
  have hl := F.len _ _ _ _ hsp
  refine wpAny_call (codeAny_mono (F.run X.A X.stack s H ⟨[.ref a, .ref b], []⟩ [.ref a, .ref b] [.ref a, y] _ E (room.mono (Nat.le_succ k)) I.env0 (by
    have := hb s [.ref a, .ref b] I.kIn (by simpa using hl)
    simpa using this) (.cons rfl (.cons ry .nil)) hsp) fun r s' hq => ?_)
  cases r with
  | error e => exact hx pins σ H s e s' I hq
  | ok fl =>
    cases fl with
    | ret w =>
      obtain ⟨z, H', I', rz, c, ez, hQ⟩ := I.after hq
      subst ez
      cases rz
      exact ⟨.bl c, H', I', rfl, hQ⟩
    | next => exact False.elim hq
    | brk => exact False.elim hq
    | cont => exact False.elim hq
theorem op_neO (F : FnOk X.prog X.w X.K X.mg X.base CX k f fd ps sp) (room : Room (k + 1) X.A)
    (hs : PySem.W.findIn X.K (.ref C) "__eq__" = some (some (.ref f))) (hf : PySem.W.isFn X.K (.ref f) = true)
    (hne : PySem.W.findIn X.K (.ref C) "__ne__" = some (some (.builtin "object.__ne__"))) (hm : PySem.W.mroIn X.K C (.type "object") = some true)
    (hb : L2.Binds X.K fd ps []) (hx : Passes CX X E) : OpR X (compareOp .NotEq) (rEqO C X.K sp E true) := by
  intro pins s σ H x y v u Q I rx ry h
  obtain ⟨a, dx, fs, rfl, ha, hbs, hsp⟩ := h
  cases rx
  obtain ⟨b, tb, rfl, lk, hn⟩ := hbs.look I ry
  obtain ⟨mA, J, _⟩ := ins_get I.hok ha
  obtain ⟨od, J, _⟩ := J.look
  obtain ⟨m, hF⟩ := I.fr
  refine cmpNe_K (tb := tb) room.units0 room.in1.units0 hF I.ok.mod.kin J lk hn hne hm hs hf ?_
  have hl := F.len _ _ _ _ hsp
  refine wpAny_call (codeAny_mono (F.run X.A.in1 X.stack s H ⟨[.ref a, .ref b], []⟩ [.ref a, .ref b] [.ref a, y] _ E room.in1 I.env0.in1 (by
    have := hb s [.ref a, .ref b] I.kIn (by simpa using hl)
    simpa using this) (.cons rfl (.cons ry .nil)) hsp) fun r s' hq => ?_)
  cases r with
  | error e => exact hx pins σ H s e s' I hq
  | ok fl =>
    cases fl with
    | ret w =>
      obtain ⟨z, H', I', rz, c, ez, hQ⟩ := I.after hq
      subst ez
      cases rz
      exact ⟨c, rfl, .bl (!c), H', I', rfl, hQ⟩
    | next => exact False.elim hq
    | brk => exact False.elim hq
    | cont => exact False.elim hq
end
end Rw

set_option Elab.async false
set_option linter.all false
set_option maxRecDepth 100000
set_option maxHeartbeats 2000000
namespace Rw
open PySem PySem.Spec PyProof.Rows L2
section
variable {X : Cx} {K : PySem.W.Frag}
theorem tuple_mul1 (l : Addr) (items : Array Value) (n : Nat) (dd : Option Addr) (sl : Array (Option Value)) (u : Tok) :
    Meets (Builtin.«tuple.__mul__» ⟨[.ref l, .int 1 u], []⟩) (fun _ R s => s.heap.get? l = some { cls := .type "tuple", dict := dd, data := .seq items n, slots := sl } ∧ R (.ok (.ret (.ref l))) s) :=
  .of_wp fun prog w A R s h => by
    obtain ⟨hp, g, d, tk, os⟩ := s
    obtain ⟨hl, h⟩ := h
    have f1 := AutoSeq1.idx_int
    have c1 : (items.isEmpty || (1 : Int) == 1) = true := by rw [show ((1 : Int) == 1) = true from rfl, Bool.or_true]
    wp_walk using wpAny_loadPart' hl
    repeat (first
      | (refine wpAny_ite_true (decide_eq_true c1) ?_; wp_walk using wpAny_loadPart' hl)
      | (refine wpAny_ite_true c1 ?_; wp_walk using wpAny_loadPart' hl))
    exact ⟨_, rfl, h⟩
def rRepTO (K : PySem.W.Frag) : R2 := fun x y H Q => ∃ l k xs, x = .ref l ∧ y = .int k ∧ SqT K H l xs ∧ xs ≠ [] ∧ 1 ≤ k ∧ k ≤ 1000 ∧ xs.length ≤ 1000 ∧ ∀ p H', Same H H' → SqT K H' p (List.replicate k.toNat xs).flatten → Q (.ref p) H'
theorem op_repT1 : OpR X (binaryOp .Mult) (fun x y H Q => ∃ l xs, x = .ref l ∧ y = .int 1 ∧ SqT X.K H l xs ∧ Q (.ref l) H) := by
  intro pins s σ H x y v u Q I rx ry h
  obtain ⟨l, xs, rfl, rfl, hT, q⟩ := h
  cases rx
  obtain ⟨t, rfl⟩ := ry
  obtain ⟨its, r, ⟨⟨cls, dd, data, sl⟩, ho, hc, n, hd⟩, hs⟩ := I.tuple hT
  simp only at hc hd
  subst hc hd
  refine wpAny_binaryOp_repeat_ref (T := "tuple") (U := "int") (by decide) ⟨_, ho, rfl⟩ (fun s' => typeIs_int s' 1 t) noFill_tuple_mul F.fills_int_mul F.slot_int_rmul repeat_tuple F.slot_int_index.lookup
    (call_meets F.slot_int_rmul (typeIs_int s 1 t) F.entry_int_rmul (F.args_int_rmul_2 _ _) (int_rmul_tuple 1 t l its.toArray n dd sl)
      ⟨ho, rfl, ⟨_, ho, rfl⟩, call_meets F.slot_tuple_mul ⟨_, ho, rfl⟩ F.entry_tuple_mul (F.args_tuple_mul_2 _ _) (tuple_mul1 l its.toArray n dd sl t) ⟨ho, ?_⟩⟩)
  exact ⟨.ref l, H, I, rfl, q⟩
theorem op_repTO (h : X.K = K := by rfl) : OpR X (binaryOp .Mult) (rRepTO K) := by
  subst h
  intro pins s σ H x y v u Q I rx ry h
  obtain ⟨l, k, xs, rfl, rfl, hT, hne, h1, h2, hz, q⟩ := h
  by_cases c : k = 1
  · subst c
    refine op_repT1 pins s σ H _ _ v u Q I rx ry ⟨l, xs, rfl, rfl, hT, q l H (Same.refl _) ?_⟩
    show SqT X.K H l (List.replicate 1 xs).flatten
    rw [show (List.replicate 1 xs).flatten = xs by simp]
    exact hT
  · refine op_repT pins s σ H _ _ v u Q I rx ry ⟨l, k, xs, rfl, rfl, hT, hne, by omega, h2, hz, fun p hp => ?_⟩
    exact q p _ (fun b x e => by rw [upd_ne (ne_of_none e hp)]; exact e) (.inl (.inl upd_same))
end
end Rw

set_option Elab.async false
set_option linter.all false
set_option maxRecDepth 100000
set_option maxHeartbeats 4000000
/-! rules of our own beside the hand layer's: errors of one's own over any base, caught by two classes at once, handed to a def -/
namespace Rw
open PySem PySem.W PySem.Calls PySem.Spec PyProof.Rows
section
variable {prog : Program} {w : World} {A : Around} {R : Result → Shared → Prop} {hp : Heap} {g : Array GenState} {d : Drawn} {t : Nat} {os : OsState} {K : Frag} {x C : Addr} {B : String} {bmB : List Value}
open Builtin.ObjectAttr in
/-- the first field of an error that has no dict as yet -/
theorem firstField {f : Str} {tk : Tok} {v : Value} {fv : Array Value} (SF : StoreFacts B bmB "object.__setattr__" "object") (X : K.In hp) (hx : hp.get? x = some { cls := .ref C, data := .fields fv })
    (over : excOver K C bmB = true) (free : takerIn K C f = some none) (dct : hasDictIn K C = true)
    (hq : ∀ h' tk' dx, (∀ b o, b ≠ x → hp.get? b = some o → h'.get? b = some o) → hp.objs.size ≤ dx → dx ≠ x → h'.get? x = some { cls := .ref C, dict := some dx, data := .fields fv } →
      h'.Ns1 dx (fun y => if y = f then some v else none) → R (.ok (.ret .none)) ⟨h', g, d, tk', os⟩) :
    codeAny (model prog w) A (.call (.builtin "object.__setattr__") ⟨[.ref x, .str f tk, v], []⟩) R ⟨hp, g, d, t, os⟩ := by
  have I : InstAt hp x { cls := .ref C, data := .fields fv } C none := ⟨hx, rfl, rfl, trivial⟩
  have far : x ≠ hp.objs.size := Nat.ne_of_lt (Heap.lt_size hx)
  refine osa_openX (s := ⟨hp, g, d, t, os⟩) SF X I over free fun b => ?_
  obtain ⟨cd, hcd, hh⟩ := any_some dct
  have lookC : Looks (model prog w) hp (classData C) cd := looks_clsIn X hcd
  show wpAny _ _ (storeInOwnDict (.ref x) (.ref C) (.str f tk) f v b) _ _ _
  obtain ⟨nm, bs, mro, ns, qn, hd, sn, sb, ab, col, del⟩ := cd
  dsimp only at hh
  subst hh
  unfold storeInOwnDict ownDictForStores
  repeat (first
    | with_reducible refine HandSPX.store_in_new ?_ ?_
    | with_reducible refine wpAny_loadPart_at hx ?_
    | with_reducible refine lookC.at ?_
    | wp_step)
  · refine ⟨_, #[], _, (Heap.get?_update_ne _ _ _ _ far.symm).trans (Heap.get?_push_at rfl rfl), rfl, ?_, fun _ => rfl⟩
    intro e he
    exact absurd he (by simp)
  · intro h' tk' hn' hs
    have there : (hp.push { cls := .type "dict", data := .dict #[] }).get? x = some { cls := .ref C, data := .fields fv } := Heap.get?_push_of_some _ hx
    refine hq h' tk' hp.objs.size (fun b o hb ho => ?_) (Nat.le_refl _) far.symm ?_ hn'
    · have z := Heap.get?_update_ne (h := hp.push { cls := .type "dict", data := .dict #[] })
      exact (hs.2 b (Nat.ne_of_lt (Heap.lt_size ho))).trans ((Heap.get?_update_ne _ _ _ _ hb).trans (Heap.get?_push_of_some _ ho))
    · exact (hs.2 x far).trans (Heap.get?_update_self _ there rfl)
end
theorem nameL {M : Model} {s : Shared} {name : Str} {scope : Scope} {L a : Addr} {cd : Value} {m : Str → Option Value} {x : Str} {pos : Pos} {v : Value} {Q : Value → Shared → Prop} {A : Around} {E : Value → Shared → Prop}
    (hn : s.heap.Ns L m) (hv : m x = some v) (h : Q v s) (hk : scope.kind = .function := by rfl)
    (hl : (envOfC name scope L a cd).kindOf x = some .local := by rfl) (hd : (x == ("__debug__" : Str)) = false := by decide) :
    wpAny M A (eval (.Name x pos) (envOfC name scope L a cd)) Q E s := by
  refine wpAny_Name ?_ hd
  exact wpAny_loadName_local hk hl hn hv h
/-- behind __init__ of a fresh error at x -/
structure IniEnd (f : Str) (h h' : Heap) (x C dx t1 : Addr) (v : Value) : Prop where
  keep : ∀ b o, b ≠ x → h.get? b = some o → h'.get? b = some o
  obj : h'.get? x = some { cls := .ref C, dict := some dx, data := .fields #[.ref t1, .none, .none, .none, .bool false, .none] }
  dbig : h.objs.size ≤ dx
  dne : dx ≠ x
  ns : h'.Ns1 dx (fun y => if y = f then some v else none)
/-- an error that was made -/
structure NewEx (f : Str) (h h' : Heap) (e C d : Addr) (v : Value) : Prop where
  keep : ∀ b o, h.get? b = some o → h'.get? b = some o
  new : h.objs.size ≤ e
  obj : ∃ oe vs, h'.get? e = some oe ∧ oe.cls = .ref C ∧ oe.dict = some d ∧ oe.data = .fields vs ∧ vs[1]? = some .none
  dbig : h.objs.size ≤ d
  dne : d ≠ e
  ns : h'.Ns1 d (fun y => if y = f then some v else none)
namespace Ex_given
/-! ### the text of an own error's __init__, its field being given -/
def iA (p1 p2 : Pos) : Arguments := { posonlyargs := [], args := [{ arg := "self", annotation := none, pos := p1 }, { arg := "given", annotation := none, pos := p2 }], vararg := none, kwonlyargs := [], kw_defaults := [], kwarg := none, defaults := [] }
def iB (q1 q2 q3 q4 : Pos) : List Stmt := [.Assign [.Attribute (.Name "self" q1) "given" q2] (.Name "given" q3) q4]
def iS : Scope := { kind := .function, names := [(PySem.Str.ofString "self", .local), (PySem.Str.ofString "given", .local)], isGenerator := false, isCoroutine := false, more := [] }
/-- the facts of such a class at C, with its __init__ at fI -/
structure Tx (K : Frag) (mg : Str → Option Value) (nm : Str) (B newId initId : String) (bmB : List Value) (C fI : Addr) : Prop where
  gC : mg nm = some (.ref C)
  base : ExcBaseFacts B newId initId bmB
  stor : StoreFacts B bmB "object.__setattr__" "object"
  ini : excInitIn K C bmB newId = true
  ovr : excOver K C bmB = true
  tkr : takerIn K C "given" = some none
  sa : findIn K (.ref C) "__setattr__" = some (some (.builtin "object.__setattr__"))
  ga : findIn K (.ref C) "__getattribute__" = some (some (.builtin "BaseException.__getattribute__"))
  gg : findIn K (.ref C) "__getattr__" = some none
  noN : findIn K (.ref C) "given" = some none
  iC : findIn K (.ref C) "__init__" = some (some (.ref fI))
  tC : typeIn K (.ref fI) = some (.type "function")
  kC : keepIn K (.ref C) = true
  exC : subIn K (.ref C) (.type "BaseException") = some true
  tyC : typeIn K (.ref C) = some (.type "type")
  hdC : hasDictIn K C = true
  cls : findIn K (.ref C) "__class__" = some (some (.builtin "object.__class__"))
  cln : specialIn K (.builtin "object.__class__") "__get__" = some (some (.builtin "getset_descriptor.__get__"))
  clt : takesIn K (.builtin "object.__class__") = some true
  clm : mroIn K C (.type "object") = some true
  fn : ∃ (q : Str) (oc : Value) (od : Option Addr) (doc pm : Value) (an : Option Addr) (cdv ct : Value) (osl : Array (Option Value)) (p1 p2 q1 q2 q3 q4 : Pos),
    K.lookup fI = some ⟨oc, od, .func (fnOf "__init__" q (iA p1 p2) (iB q1 q2 q3 q4) iS .none .none doc pm an cdv ct), osl⟩ ∧ codeIn K cdv q = true
section
variable {prog : Program} {w : World} {A : Around} {E : Value → Shared → Prop} {R : Result → Shared → Prop} {s : Shared} {K : Frag} {mg : Str → Option Value} {C fI : Addr} {nm : Str} {B newId initId : String} {bmB : List Value}
theorem inited (T : Tx K mg nm B newId initId bmB C fI) {x t0 : Addr} {v : Value} (X : K.In s.heap) (hlim : s.heap.NoLimit) (hx : s.heap.get? x = some (HandSPX.excO C t0)) (hroom : A.depth < recursionLimit)
    (hq : ∀ h' tk dx, IniEnd "given" s.heap h' x C dx t0 v → R (.ok (.ret .none)) { s with heap := h', toks := tk }) :
    codeAny (model prog w) A (.call (.ref fI) ⟨[.ref x, v], []⟩) R s := by
  obtain ⟨q, oc, od, doc, pm, an, cdv, ct, osl, p1, p2, q1, q2, q3, q4, ho, hcd⟩ := T.fn
  refine Att.call_fn (binds := [("self", .ref x), ("given", v)]) X hlim ho hcd hroom (BindsTo.of_eq (by first | rfl | with_unfolding_all rfl)) (by first | rfl | decide | with_unfolding_all rfl) (fun s₁ IC => ?_) rfl rfl rfl
  obtain ⟨h₁, tk₁, rfl⟩ := IC.toInCall.same
  have k : ∀ b o, s.heap.get? b = some o → h₁.get? b = some o := IC.toInCall.keep
  have hn := IC.toInCall.ns
  have X₁ : K.In h₁ := X.keeps k
  have hx₁ := k _ _ hx
  show wpAny _ _ (execs _ _) _ _ _
  refine wpAny_execs_cons (plainObj_wpAny_Assign_Attribute ?_)
  refine nameL (v := v) hn (by first | rfl | with_unfolding_all rfl | kernel_rfl) (nameL (v := .ref x) hn (by first | rfl | with_unfolding_all rfl | kernel_rfl) ?_)
  refine set_plain X₁ (ox := HandSPX.excO C t0) (od := none) ⟨hx₁, rfl, rfl, trivial⟩ T.sa ?_
  refine firstField T.stor X₁ hx₁ T.ovr T.tkr T.hdC fun h₃ tk₃ dx k₃ dn dne hx₃ hn₃ => ?_
  show wpAny _ _ (execs _ _) _ _ _
  have z : s.heap.objs.size < h₁.objs.size := hn.lt
  exact wpAny_execs_nil (hq h₃ tk₃ dx ⟨fun b o hb e => k₃ b o hb (k b o e), hx₃, Nat.le_of_lt (Nat.lt_of_lt_of_le z dn), dne, hn₃⟩)
theorem made (T : Tx K mg nm B newId initId bmB C fI) {v : Value} (X : K.In s.heap) (hlim : s.heap.NoLimit) (hroom : A.depth + 1 < recursionLimit)
    (hq : ∀ h' tk e d, NewEx "given" s.heap h' e C d v → R (.ok (.ret (.ref e))) { s with heap := h', toks := tk }) :
    codeAny (model prog w) A (.call (.ref C) ⟨[v], []⟩) R s := by
  obtain ⟨nm, N, q, bs, bm, hdct, sn, sub, ab, col, dd, k0, k1, k2, k3, k5, hC, hT⟩ := excInit_of X T.ini
  obtain ⟨hp, g, dr, tk, os⟩ := s
  have k : ∀ b o, hp.get? b = some o → ((hp.push (kdv_tup [v])).push (HandSPX.excO C hp.objs.size)).get? b = some o := fun b o e => Heap.get?_push_of_some _ (Heap.get?_push_of_some _ e)
  have hget : ((hp.push (kdv_tup [v])).push (HandSPX.excO C hp.objs.size)).get? (hp.objs.size + 1) = some (HandSPX.excO C hp.objs.size) := by heap_get
  refine HandSPX.call_own T.base hT hC (looks_findIn X T.iC) (fun self => bind_fn X self T.tC) (by show 1 ≤ sizeLine; decide) ?_
  refine inited (s := ⟨(hp.push (kdv_tup [v])).push (HandSPX.excO C hp.objs.size), g, dr, tk, os⟩) T (X.keeps k) (hlim.keeps k) hget ?_ fun h' tk' dx ⟨k', hx, dn, dne, hns⟩ => ?_
  · show A.depth + 1 < recursionLimit
    exact hroom
  · have old : ∀ b o, hp.get? b = some o → h'.get? b = some o := fun b o e => k' b o (Nat.ne_of_lt (Nat.lt_succ_of_lt (Heap.lt_size e))) (k b o e)
    have z : hp.objs.size + 1 + 1 ≤ dx := by
      first
        | (simpa only [Heap.size_push] using dn)
        | exact dn
        | (have q := dn; rw [Heap.size_push, Heap.size_push] at q; exact q)
    exact ⟨rfl, hq h' tk' (hp.objs.size + 1) dx ⟨old, Nat.le_succ _, ⟨_, _, hx, rfl, rfl, rfl, rfl⟩, Nat.le_trans (Nat.le_trans (Nat.le_succ _) (Nat.le_succ _)) z, dne, hns⟩⟩
end
end Ex_given
namespace Ex_limit
/-! ### the text of an own error's __init__, its field being limit -/
def iA (p1 p2 : Pos) : Arguments := { posonlyargs := [], args := [{ arg := "self", annotation := none, pos := p1 }, { arg := "limit", annotation := none, pos := p2 }], vararg := none, kwonlyargs := [], kw_defaults := [], kwarg := none, defaults := [] }
def iB (q1 q2 q3 q4 : Pos) : List Stmt := [.Assign [.Attribute (.Name "self" q1) "limit" q2] (.Name "limit" q3) q4]
def iS : Scope := { kind := .function, names := [(PySem.Str.ofString "self", .local), (PySem.Str.ofString "limit", .local)], isGenerator := false, isCoroutine := false, more := [] }
/-- the facts of such a class at C, with its __init__ at fI -/
structure Tx (K : Frag) (mg : Str → Option Value) (nm : Str) (B newId initId : String) (bmB : List Value) (C fI : Addr) : Prop where
  gC : mg nm = some (.ref C)
  base : ExcBaseFacts B newId initId bmB
  stor : StoreFacts B bmB "object.__setattr__" "object"
  ini : excInitIn K C bmB newId = true
  ovr : excOver K C bmB = true
  tkr : takerIn K C "limit" = some none
  sa : findIn K (.ref C) "__setattr__" = some (some (.builtin "object.__setattr__"))
  ga : findIn K (.ref C) "__getattribute__" = some (some (.builtin "BaseException.__getattribute__"))
  gg : findIn K (.ref C) "__getattr__" = some none
  noN : findIn K (.ref C) "limit" = some none
  iC : findIn K (.ref C) "__init__" = some (some (.ref fI))
  tC : typeIn K (.ref fI) = some (.type "function")
  kC : keepIn K (.ref C) = true
  exC : subIn K (.ref C) (.type "BaseException") = some true
  tyC : typeIn K (.ref C) = some (.type "type")
  hdC : hasDictIn K C = true
  cls : findIn K (.ref C) "__class__" = some (some (.builtin "object.__class__"))
  cln : specialIn K (.builtin "object.__class__") "__get__" = some (some (.builtin "getset_descriptor.__get__"))
  clt : takesIn K (.builtin "object.__class__") = some true
  clm : mroIn K C (.type "object") = some true
  fn : ∃ (q : Str) (oc : Value) (od : Option Addr) (doc pm : Value) (an : Option Addr) (cdv ct : Value) (osl : Array (Option Value)) (p1 p2 q1 q2 q3 q4 : Pos),
    K.lookup fI = some ⟨oc, od, .func (fnOf "__init__" q (iA p1 p2) (iB q1 q2 q3 q4) iS .none .none doc pm an cdv ct), osl⟩ ∧ codeIn K cdv q = true
section
variable {prog : Program} {w : World} {A : Around} {E : Value → Shared → Prop} {R : Result → Shared → Prop} {s : Shared} {K : Frag} {mg : Str → Option Value} {C fI : Addr} {nm : Str} {B newId initId : String} {bmB : List Value}
theorem inited (T : Tx K mg nm B newId initId bmB C fI) {x t0 : Addr} {v : Value} (X : K.In s.heap) (hlim : s.heap.NoLimit) (hx : s.heap.get? x = some (HandSPX.excO C t0)) (hroom : A.depth < recursionLimit)
    (hq : ∀ h' tk dx, IniEnd "limit" s.heap h' x C dx t0 v → R (.ok (.ret .none)) { s with heap := h', toks := tk }) :
    codeAny (model prog w) A (.call (.ref fI) ⟨[.ref x, v], []⟩) R s := by
  obtain ⟨q, oc, od, doc, pm, an, cdv, ct, osl, p1, p2, q1, q2, q3, q4, ho, hcd⟩ := T.fn
  refine Att.call_fn (binds := [("self", .ref x), ("limit", v)]) X hlim ho hcd hroom (BindsTo.of_eq (by first | rfl | with_unfolding_all rfl)) (by first | rfl | decide | with_unfolding_all rfl) (fun s₁ IC => ?_) rfl rfl rfl
  obtain ⟨h₁, tk₁, rfl⟩ := IC.toInCall.same
  have k : ∀ b o, s.heap.get? b = some o → h₁.get? b = some o := IC.toInCall.keep
  have hn := IC.toInCall.ns
  have X₁ : K.In h₁ := X.keeps k
  have hx₁ := k _ _ hx
  show wpAny _ _ (execs _ _) _ _ _
  refine wpAny_execs_cons (plainObj_wpAny_Assign_Attribute ?_)
  refine nameL (v := v) hn (by first | rfl | with_unfolding_all rfl | kernel_rfl) (nameL (v := .ref x) hn (by first | rfl | with_unfolding_all rfl | kernel_rfl) ?_)
  refine set_plain X₁ (ox := HandSPX.excO C t0) (od := none) ⟨hx₁, rfl, rfl, trivial⟩ T.sa ?_
  refine firstField T.stor X₁ hx₁ T.ovr T.tkr T.hdC fun h₃ tk₃ dx k₃ dn dne hx₃ hn₃ => ?_
  show wpAny _ _ (execs _ _) _ _ _
  have z : s.heap.objs.size < h₁.objs.size := hn.lt
  exact wpAny_execs_nil (hq h₃ tk₃ dx ⟨fun b o hb e => k₃ b o hb (k b o e), hx₃, Nat.le_of_lt (Nat.lt_of_lt_of_le z dn), dne, hn₃⟩)
theorem made (T : Tx K mg nm B newId initId bmB C fI) {v : Value} (X : K.In s.heap) (hlim : s.heap.NoLimit) (hroom : A.depth + 1 < recursionLimit)
    (hq : ∀ h' tk e d, NewEx "limit" s.heap h' e C d v → R (.ok (.ret (.ref e))) { s with heap := h', toks := tk }) :
    codeAny (model prog w) A (.call (.ref C) ⟨[v], []⟩) R s := by
  obtain ⟨nm, N, q, bs, bm, hdct, sn, sub, ab, col, dd, k0, k1, k2, k3, k5, hC, hT⟩ := excInit_of X T.ini
  obtain ⟨hp, g, dr, tk, os⟩ := s
  have k : ∀ b o, hp.get? b = some o → ((hp.push (kdv_tup [v])).push (HandSPX.excO C hp.objs.size)).get? b = some o := fun b o e => Heap.get?_push_of_some _ (Heap.get?_push_of_some _ e)
  have hget : ((hp.push (kdv_tup [v])).push (HandSPX.excO C hp.objs.size)).get? (hp.objs.size + 1) = some (HandSPX.excO C hp.objs.size) := by heap_get
  refine HandSPX.call_own T.base hT hC (looks_findIn X T.iC) (fun self => bind_fn X self T.tC) (by show 1 ≤ sizeLine; decide) ?_
  refine inited (s := ⟨(hp.push (kdv_tup [v])).push (HandSPX.excO C hp.objs.size), g, dr, tk, os⟩) T (X.keeps k) (hlim.keeps k) hget ?_ fun h' tk' dx ⟨k', hx, dn, dne, hns⟩ => ?_
  · show A.depth + 1 < recursionLimit
    exact hroom
  · have old : ∀ b o, hp.get? b = some o → h'.get? b = some o := fun b o e => k' b o (Nat.ne_of_lt (Nat.lt_succ_of_lt (Heap.lt_size e))) (k b o e)
    have z : hp.objs.size + 1 + 1 ≤ dx := by
      first
        | (simpa only [Heap.size_push] using dn)
        | exact dn
        | (have q := dn; rw [Heap.size_push, Heap.size_push] at q; exact q)
    exact ⟨rfl, hq h' tk' (hp.objs.size + 1) dx ⟨old, Nat.le_succ _, ⟨_, _, hx, rfl, rfl, rfl, rfl⟩, Nat.le_trans (Nat.le_trans (Nat.le_succ _) (Nat.le_succ _)) z, dne, hns⟩⟩
end
end Ex_limit
end Rw
namespace Rw
open PySem PySem.Spec PyProof.Rows L2
theorem relO_one {f : Str} {v : V} {v' : Value} (r : RelV v v') (g : Str) : RelO (List.lookup g [(f, v)]) (if g = f then some v' else none) := by
  by_cases hw : g = f
  · subst hw
    rw [if_pos rfl]
    have q : List.lookup g [(g, v)] = some v := by simp [List.lookup]
    rw [q]
    exact r
  · rw [if_neg hw]
    have qw : (g == f) = false := by simpa using hw
    have q2 : List.lookup g [(f, v)] = none := by simp [List.lookup, qw]
    rw [q2]
    trivial
/-- x(e), x an own error at C: its dict, new, has the field alone -/
def tMkEx (f : Str) (C : Addr) (ta : TA) : L2.St → Hp → XK → Prop := fun σ H Q => ta σ H fun vs H1 => ∃ v, vs = [v] ∧ ∀ d, H1 d = none → Q (.ref C) (some d) (upd H1 d (.xd [(f, v)]))
theorem flown {X : Cx} {pins : List (Addr × Obj)} {σ : L2.St} {H1 : Hp} {Q : XK} {hp h' : Heap} {g : Array GenState} {dr : Drawn} {tk tk' : Nat} {os : OsState} {C e d : Addr} {v : V} {v' : Value} {f nm : Str}
    (ra : Raises X (.ref C)) (I1 : Inv X pins σ H1 ⟨hp, g, dr, tk, os⟩) (rv : RelV v v') (M : NewEx f hp h' e C d v') (q1 : ∀ d, H1 d = none → Q (.ref C) (some d) (upd H1 d (.xd [(f, v)]))) : MkP X pins σ Q (.ref e) ⟨h', g, dr, tk', os⟩ := by
  obtain ⟨oe, fv, hoe, hc, hd, hdat, h1⟩ := M.obj
  have hns := M.ns
  obtain ⟨G', g1, g2⟩ := restrict h' fun b => decide (b ≠ e)
  have gk : ∀ b, b ≠ e → G'.get? b = h'.get? b := fun b hb => g1 b (decide_eq_true hb)
  have ge : G'.get? e = none := g2 e (by simp)
  have old : ∀ b o, hp.get? b = some o → G'.get? b = some o := fun b o q => (gk b (Nat.ne_of_lt (Nat.lt_of_lt_of_le (Heap.lt_size q) M.new))).trans (M.keep b o q)
  have ob : ObjOk X.prog X.w (upd H1 d (.xd [(f, v)])) G' d (.xd [(f, v)]) := ⟨_, hns.at (fun o q => (gk d M.dne).trans q), fun g => relO_one rv g⟩
  have J : Inv X pins σ (upd H1 d (.xd [(f, v)])) ⟨G', g, dr, tk', os⟩ := I1.laid (t' := tk') old M.dbig ob
  refine ⟨e, oe, fv, ⟨G', g, dr, tk', os⟩, _, .ref C, some d, rfl, J, fun b o q => ?_, ge, hoe, ⟨hc, hd⟩, hdat, h1, ?_, rfl, I1.bare, ra, q1 d (I1.hok.fresh M.dbig)⟩
  · by_cases hb : b = e
    · have q' : G'.get? b = some o := q
      rw [hb, ge] at q'; cases q'
    · exact (gk b hb).symm.trans q
  · rw [upd_ne (Ne.symm M.dne)]
    exact I1.hok.fresh M.new
/-- x(e), x an own error with the field given -/
theorem pmk_given {X : Cx} {C fI : Addr} {nm : Str} {B newId initId : String} {bmB : List Value} {a : Expr} {ta : TA} {p pos : Pos} {k : Nat} (T : Ex_given.Tx X.K X.mg nm B newId initId bmB C fI) (hr : Room k X.A) (ha : PA X [a] ta) (hg : Gl X nm := by rfl)
    (hdb : (nm == ("__debug__" : Str)) = false := by decide) (he : starEach (a :: []) X.env = (false, eval a X.env) :: starEach [] X.env := by rfl) (hpl : (backTo pos (starEach [] X.env)).any (·.1) = false := by rfl) :
    PMk X (.Call (.Name nm p) [a] [] pos) (tMkEx "given" C ta) := by
  intro pins s σ H Q I h
  refine wpAny_Call_Name_kw (ld_glob I hg T.gC ?_ hdb)
  refine PySem.W.callWith_K (h₀ := X.base) I.ok.mod.kin T.kC (thn (ha.run pos pins s σ H _ I h) fun us s1 hh => ?_) he hpl
  obtain ⟨vs, H1, I1, r1, v, ev, q1⟩ := hh
  subst ev
  refine ⟨I1.kIn, ?_⟩
  cases r1 with
  | cons rv rn =>
    rename_i v' us'
    cases rn
    show wpAny _ _ (call (.ref C) [v']) _ _ _
    have hlim := I1.nolimit
    obtain ⟨hp, g, dr, tk, os⟩ := s1
    refine wpAny_call (Ex_given.made T I1.kIn hlim (by have := hr.dp; omega) fun h' tk' e d M => ?_)
    exact flown (nm := nm) (raises_own T.exC T.tyC) I1 rv M q1
/-- x(e), x an own error with the field limit -/
theorem pmk_limit {X : Cx} {C fI : Addr} {nm : Str} {B newId initId : String} {bmB : List Value} {a : Expr} {ta : TA} {p pos : Pos} {k : Nat} (T : Ex_limit.Tx X.K X.mg nm B newId initId bmB C fI) (hr : Room k X.A) (ha : PA X [a] ta) (hg : Gl X nm := by rfl)
    (hdb : (nm == ("__debug__" : Str)) = false := by decide) (he : starEach (a :: []) X.env = (false, eval a X.env) :: starEach [] X.env := by rfl) (hpl : (backTo pos (starEach [] X.env)).any (·.1) = false := by rfl) :
    PMk X (.Call (.Name nm p) [a] [] pos) (tMkEx "limit" C ta) := by
  intro pins s σ H Q I h
  refine wpAny_Call_Name_kw (ld_glob I hg T.gC ?_ hdb)
  refine PySem.W.callWith_K (h₀ := X.base) I.ok.mod.kin T.kC (thn (ha.run pos pins s σ H _ I h) fun us s1 hh => ?_) he hpl
  obtain ⟨vs, H1, I1, r1, v, ev, q1⟩ := hh
  subst ev
  refine ⟨I1.kIn, ?_⟩
  cases r1 with
  | cons rv rn =>
    rename_i v' us'
    cases rn
    show wpAny _ _ (call (.ref C) [v']) _ _ _
    have hlim := I1.nolimit
    obtain ⟨hp, g, dr, tk, os⟩ := s1
    refine wpAny_call (Ex_limit.made T I1.kIn hlim (by have := hr.dp; omega) fun h' tk' e d M => ?_)
    exact flown (nm := nm) (raises_own T.exC T.tyC) I1 rv M q1
end Rw

set_option Elab.async false
set_option linter.all false
set_option maxRecDepth 100000
set_option maxHeartbeats 4000000
/-! except (A, B) as n; a def that is handed the caught error -/
namespace Rw
open PySem PySem.Spec PyProof.Rows L2
theorem flying_more {B h h' : Heap} {l : List Env} {a : Addr} {Z : Obj → Prop} (fl : HandSPX.FlyingZ B l a Z h) (k : ∀ b o, h.get? b = some o → h'.get? b = some o) : HandSPX.FlyingZ B l a Z h' := by
  obtain ⟨f1, f2, f3, oe, vs, T, oT, ts, e1, z, e2, e3, n1, n2, e4, e5, e6⟩ := fl
  refine ⟨fun b o e => k _ _ (f1 b o e), f2, ?_, oe, vs, T, oT, ts, k _ _ e1, z, e2, e3, n1, n2, k _ _ e4, e5, e6⟩
  exact Heap.FunFrames.of_keeps (fun b o e _ => ⟨o, k b o e, rfl⟩) f3
/-- the wish of 'except (..) as n' where one of the classes fits -/
def wTwo (K : PySem.W.Frag) (cs : List Value) (i : Nat) (ts : Addr → Value → Option Addr → TS) (D : Ends) : WX := fun cls d σ H =>
  PySem.W.exmAny K cls cs = some true ∧ ∀ a, H a = none → ts a cls d { nx := fun σ' H' => D.nx (σ'.set i none) H', rt := D.rt, bk := fun σ' H' => D.bk (σ'.set i none) H', ct := fun σ' H' => D.ct (σ'.set i none) H' } (σ.set i (some (.ref a))) H
section
variable {X : Cx} {x1 x2 n : Str} {c1 c2 : Value} {i kk : Nat} {body suite : List Stmt} {b₀ : Stmt} {q1 q2 tp pos pos' : Pos} {tb : WX → TS} {ts : Addr → Value → Option Addr → TS}
theorem name_at {Y : Cx} {x : Str} {c : Value} {p : Pos} {pins : List (Addr × Obj)} {σ : L2.St} {H : Hp} {s : Shared} {Q : Value → Shared → Prop} {E : Value → Shared → Prop} (I : Inv Y pins σ H s) (hc : Names Y x c) (q : Q c s) : wpAny (model Y.prog Y.w) Y.A (eval (.Name x p) Y.env) Q E s := by
  obtain ⟨hg, hdb, hm | ⟨hm, hv, hn⟩⟩ := hc
  · exact ld_glob I hg hm q hdb
  · exact ld_blt I hg hm hv q hn hdb
theorem ps_try_two (stk : X.stack = X.env :: X.outer) (frm : X.env.frame = some X.env.locals) (nod : X.N.Nodup) (slot : X.N[i]? = some n) (loc : X.env.kindOf n = some .local) (m1 : Names X x1 c1) (m2 : Names X x2 c2)
    (bod : ∀ (W : WX) (pn : List (Addr × Obj)) (xe : Value → Shared → Prop), Takes (X.tr pn xe) W → PassesOwn (model X.prog X.w) X.A X.env xe → PSs (X.tr pn xe) body (tb W))
    (sui : ∀ (a : Addr) (oe : Obj) (cls : Value) (d : Option Addr) (pn : List (Addr × Obj)), Zc cls d oe → (∃ vs, oe.data = .fields vs) → PSs (X.suite a ((a, oe) :: pn)) (b₀ :: suite) (ts a cls d)) :
    PS X (.Try body [.ExceptHandler (some (.Tuple [.Name x1 q1, .Name x2 q2] kk tp)) (some n) (b₀ :: suite) pos'] [] [] pos) (fun D σ H => tb (wTwo X.K [c1, c2] i ts D) D σ H) := by
  constructor
  intro pins s σ H D I h
  have ok := I.ok
  have frames : X.A.frames = some (X.env :: X.outer) := by rw [ok.frames, stk]
  refine wpAny_Try_except ?_
  have catch_ := bod (wTwo X.K [c1, c2] i ts D) (X.pn ++ pins) (fun e t1 => wpAny (model X.prog X.w) X.A (noteFrame e X.env) (fun _ t2 => wpAny (model X.prog X.w) X.A (setFlight e none)
    (fun _ t3 => wpAny (model X.prog X.w) X.A (handleBy e X.env [.ExceptHandler (some (.Tuple [.Name x1 q1, .Name x2 q2] kk tp)) (some n) (b₀ :: suite) pos']) (SP X pins D) X.xe t3) X.xe t2) X.xe t1) ?_ PassesOwn.looking
  · refine wpAny_mono (catch_.run [] s σ H D (I.toTry _) h) (fun f t1 out => ?_) (fun e t1 z => z)
    cases f with
    | next => obtain ⟨σ', H', J, q⟩ := out; exact wpAny_execs_nil ⟨σ', H', J.ofTry ok, q⟩
    | brk => obtain ⟨σ', H', J, q⟩ := out; exact ⟨σ', H', J.ofTry ok, q⟩
    | cont => obtain ⟨σ', H', J, q⟩ := out; exact ⟨σ', H', J.ofTry ok, q⟩
    | ret u => obtain ⟨v, σ', H', J, r, q⟩ := out; exact ⟨v, σ', H', J.ofTry ok, r, q⟩
  · intro u t1 air
    obtain ⟨a, B, sI, pins', σ', H', cls, d, rfl, J', nb, up, sky, na, os, ag, fits, go⟩ := air
    have J : Inv X pins σ' H' sI := J'.ofTry ok
    have sky1 : Sky B (X.env :: X.outer) a (Zc cls d) X.env.locals t1.heap := by rw [← stk]; exact sky
    refine Sky.land Zc.steady frames frm sky1 fun h3 fl3 up3 => ?_
    have J3 : Inv X pins σ' H' { t1 with heap := h3 } := J.landed nb fl3.1 (up.trans up3) os ag
    obtain ⟨o3, v3, g3, z3, d3⟩ := fl3.there
    have apart : a ∉ frs (X.env :: X.outer) := by
      intro hm
      obtain ⟨_, o', e', hnf⟩ := fl3.2.2.1.mem hm
      rw [g3] at e'
      cases e'
      exact hnf _ d3
    have nL : a ≠ X.env.locals := fun z => apart (List.mem_filterMap.mpr ⟨X.env, List.mem_cons_self, by rw [frm, z]⟩)
    have nF : a ∉ X.fs := by
      intro hm
      obtain ⟨e, he, q⟩ := List.mem_filterMap.mp hm
      exact apart (List.mem_filterMap.mpr ⟨e, List.mem_cons_of_mem _ he, q⟩)
    have S3 := J3.suite g3 d3 na nL nF
    refine wpAny_handleBy_cons (codeAny_handlers_test ?_) (by intro q; cases q)
    refine wpAny_Tuple (wpAny_items_cons (name_at (Y := X.suite a ((a, o3) :: (X.pn ++ pins))) S3 m1 (wpAny_items_cons (name_at (Y := X.suite a ((a, o3) :: (X.pn ++ pins))) S3 m2 (wpAny_items_nil ⟨by show 2 ≤ sizeLine; decide, ?_⟩)))))
    have kp : ∀ b o, h3.get? b = some o → (h3.push { cls := .type "tuple", data := .seq [c1, c2].toArray }).get? b = some o := fun _ _ z => Heap.get?_push_of_some _ z
    have LT : PySem.W.Looks (model X.prog X.w) h3 (typeOf (.ref a)) cls := fun A Q E s k q => wpAny_typeOf_ref (k _ _ g3) (by rw [z3.1]; exact q)
    refine (PySem.W.exm_tup2 (M := model X.prog X.w) (J3.kIn.keeps kp) (LT.keeps kp) (Heap.get?_push_size h3 rfl) fits).here ?_
    have fl4 := flying_more fl3 kp
    have up4 : h3.UpToSlots (h3.push { cls := .type "tuple", data := .seq [c1, c2].toArray }) := fun b o e _ => ⟨o.slots, kp b o e⟩
    refine codeAny_handlers_suite_as ?_
    refine HandSPX.lands_againZ (s := { t1 with heap := h3.push { cls := .type "tuple", data := .seq [c1, c2].toArray } }) fl4 fun h5 fl5 up5 => ?_
    have J5 : Inv X pins σ' H' { t1 with heap := h5 } := J.landed nb fl5.1 (((up.trans up3).trans up4).trans up5) os ag
    obtain ⟨o5, v5, g5, z5, d5⟩ := fl5.there
    have S5 := J5.suite g5 d5 na nL nF
    refine store_ok (X := X.suite a ((a, o5) :: (X.pn ++ pins))) (v := .ref a) S5 nod slot (.inl loc) rfl (fun t6 S6 => ?_) (.inr loc)
    refine wpAny_mono ((sui a o5 cls d (X.pn ++ pins) z5 ⟨_, d5⟩).run [] t6 _ H' _ S6 (go a na)) (fun f t7 out => ?_) (fun _ _ z => False.elim z)
    have leave : ∀ {σ6 : L2.St} {H6 : Hp} {Q : Shared → Prop}, Inv (X.suite a ((a, o5) :: (X.pn ++ pins))) [] σ6 H6 t7 → (∀ s7, Inv X pins (σ6.set i none) H6 s7 → Q s7) →
        wpAny (model X.prog X.w) X.A (do bindName X.env n .none; unbindBehindTheSuite X.env n pos') (fun _ s7 => Q s7) X.xe t7 := fun S7 hq => gone_ok (S7.unsuite ok) nod slot loc hq
    cases f with
    | next => obtain ⟨σ6, H6, S7, q⟩ := out; exact leave S7 fun s7 J7 => ⟨_, _, J7, q⟩
    | brk => obtain ⟨σ6, H6, S7, q⟩ := out; exact leave S7 fun s7 J7 => ⟨_, _, J7, q⟩
    | cont => obtain ⟨σ6, H6, S7, q⟩ := out; exact leave S7 fun s7 J7 => ⟨_, _, J7, q⟩
    | ret u => obtain ⟨v6, σ6, H6, S7, r6, q⟩ := out; exact leave S7 fun s7 J7 => ⟨_, _, _, J7, r6, q⟩
end
/-! ### a def that is handed the error -/
structure FnW (P : Program) (w : World) (K : PySem.W.Frag) (mg : Str → Option Value) (base : Heap) (k : Nat) (f : Addr) (fd : FuncData) (y : Str) (sp : Addr → Value → Option Addr → Hp → VK → Prop) : Prop where
  run : ∀ (A : Around) (outer : List Env) (s : Shared) (H : Hp) (args : Args) (Q : VK) (a : Addr) (oe : Obj), A.guards = some [] → L2H.RoomH k A → L2H.PinOk outer H s (a, oe) → (∃ vs, oe.data = .fields vs) →
    Env0 P w K mg base A outer s H → BindsTo s fd args [(y, .ref a)] → sp a oe.cls oe.dict H Q → codeAny (model P w) A (.call (.ref f) args) (CR L2.CX0 outer P w H s Q L2.E0) s
section
variable {P : Program} {w : World} {K : PySem.W.Frag} {mg : Str → Option Value} {base : Heap} {f : Addr} {fd : FuncData} {N : List Str} {k : Nat} {sp : Addr → Value → Option Addr → Hp → VK → Prop} {x qual y : Str} {st : Stmt}
theorem fnW_of (F : Fun K x qual st f fd) (S : FnScope N [y] (defScope st))
    (hbody : ∀ (cdv : Value) (A : Around) (outer : List Env) (s : Shared) (H : Hp) (Q : VK) (a : Addr) (oe : Obj), A.guards = some [] → L2H.RoomH k (A.deeper (envOfC qual (defScope st) s.heap.objs.size f cdv)) → (∃ vs, oe.data = .fields vs) → sp a oe.cls oe.dict H Q →
      ∃ t, PSs (L2H.cxH L2.CX0 P w K mg base N qual (defScope st) f cdv A outer s H L2.E0 (a, oe)).nox (defBody st) t ∧ t { nx := fun _ H' => Q .non H', rt := Q } (L2.start N [.ref a]) H) :
    FnW P w K mg base (k + 1) f fd y sp := by
  obtain ⟨oc, od, kV, doc, pm, an, cdv, ct, osl, rfl, lk, hcd⟩ := F.ex
  constructor
  intro A outer s H args Q a oe hg hr pin hf e0 hb hsp
  have inn : K.In s.heap := e0.mod.kin.keeps (fun b o e => (e0.bs b o e).1)
  have nolim : s.heap.NoLimit := e0.mod.nolimit.keeps (fun b o e => (e0.bs b o e).1)
  have kinds : ∀ z ∈ [y].zip [Value.ref a], (defScope st).names.lookup z.1 = some .local ∨
      ((defScope st).names.lookup z.1 = some .cell ∧ ((cellsFrom (s.heap.objs.size + 1) (defScope st).names []).lookup z.1).isSome = true) := by
    rintro ⟨m, v⟩ hz
    rcases S.par m (List.of_mem_zip hz).1 with q | q
    · exact .inl q
    · exact .inr ⟨q, PySem.W.cellsFrom_some _ _ _ (.inl q)⟩
  refine codeAny_call_function hr.depth (inn _ _ lk) rfl S.co S.gen rfl (PySem.W.codeRec_of inn hcd) (hb _ _ _ _ ?_)
  refine wpAny_newFunctionEnv_cells S.kind kinds (fun env he s1 z => ?_)
  subst he
  refine ⟨nolim.keeps z.toInCall.keep, codeAny_func ?_⟩
  obtain ⟨t, ht, hq⟩ := hbody cdv A outer s H Q a oe hg (hr.deeper _) hf hsp
  have I := L2H.inv_startH (CX := L2.CX0) (P := P) (w := w) (K := K) (mg := mg) (base := base) (qual := qual) (f := f) (cd := cdv) (E := L2.E0) (vs := [.ref a]) (us := [.ref a]) S pin e0 rfl (.cons rfl .nil) z
  refine wpAny_mono (ht.nox.run [] s1 _ H _ I hq) (fun fl s' hs => ?_) (fun e s' hs => hs)
  cases fl with
  | ret u =>
    obtain ⟨v, σ', H', J, rv, q⟩ := hs
    exact ⟨v, H', J.os, J.bare, J.base, J.hok, rv, q⟩
  | next =>
    obtain ⟨σ', H', J, q⟩ := hs
    exact ⟨V.non, H', J.os, J.bare, J.base, J.hok, rfl, q⟩
  | brk => obtain ⟨_, _, _, q⟩ := hs; exact False.elim q
  | cont => obtain ⟨_, _, _, q⟩ := hs; exact False.elim q
end
section
variable {X : Cx} {k : Nat} {f a : Addr} {oe : Obj} {pn : List (Addr × Obj)} {fd : FuncData} {y : Str} {sp : Addr → Value → Option Addr → Hp → VK → Prop} {x : Str} {p pos : Pos} {e : Expr} {ta : TE}
def tCallW (a : Addr) (oe : Obj) (sp : Addr → Value → Option Addr → Hp → VK → Prop) (t : TA) : TE := fun σ H Q => t σ H fun vs H1 => vs = [.ref a] ∧ sp a oe.cls oe.dict H1 Q
theorem pe_callW {t : TA} (F : FnW X.prog X.w X.K X.mg X.base k f fd y sp) (hgd : X.A.guards = some []) (room : L2H.RoomH k X.A) (glob : Gl X x) (known : X.mg x = some (.ref f))
    (keep : PySem.W.keepIn X.K (.ref f) = true) (b : L2.Binds X.K fd [y] []) (hf : ∃ vs, oe.data = .fields vs) (ha : PA (X.suite a ((a, oe) :: pn)) [e] t)
    (hdb : (x == ("__debug__" : Str)) = false := by decide) (he : starEach (e :: []) X.env = (false, eval e X.env) :: starEach [] X.env := by rfl)
    (hpl : (backTo pos (starEach [] X.env)).any (·.1) = false := by rfl) : PE (X.suite a ((a, oe) :: pn)) (.Call (.Name x p) [e] [] pos) (tCallW a oe sp t) := by
  constructor
  intro pins s σ H Q I h
  refine wpAny_Call_Name_kw (ld_glob I glob known ?_ hdb)
  refine PySem.W.callWith_K (h₀ := X.base) I.ok.mod.kin keep (thn (ha.run pos pins s σ H _ I h) fun us s1 hh => ?_) he hpl
  obtain ⟨vs, H1, I1, r, rfl, q⟩ := hh
  refine ⟨I1.kIn, ?_⟩
  obtain rfl : us = [Value.ref a] := by
    cases r with
    | cons p1 q1 =>
      cases q1
      cases p1
      rfl
  have P1 := I1.pin (a, oe) (List.mem_append_left _ List.mem_cons_self)
  have hpin : L2H.PinOk X.stack H1 s1 (a, oe) := ⟨P1.1, P1.2.1, fun hm => (List.mem_cons.mp (I1.stkSub a hm)).elim P1.2.2.1 P1.2.2.2.1, P1.2.2.2.2⟩
  have bb := b s1 [.ref a] I1.kIn rfl
  refine wpAny_call (codeAny_mono (F.run (X.suite a ((a, oe) :: pn)).A X.stack s1 H1 ⟨[.ref a], []⟩ Q a oe hgd ⟨room.dp, room.un⟩ hpin hf I1.env0 bb q) fun r s' hq => ?_)
  cases r with
  | error e => exact False.elim hq
  | ok fl =>
    cases fl with
    | ret u => exact I1.after hq
    | next => exact False.elim hq
    | brk => exact False.elim hq
    | cont => exact False.elim hq
end
end Rw

set_option Elab.async false
set_option linter.all false
set_option maxRecDepth 100000
set_option maxHeartbeats 4000000
/-! what may be asked of a caught error: its class, its field; repr of any data; how often a bool stands in a list -/
namespace Rw
open PySem PySem.Spec PyProof.Rows L2
/-- what an error's class must say -/
structure XC (K : PySem.W.Frag) (C : Addr) : Prop where
  ga : PySem.W.findIn K (.ref C) "__getattribute__" = some (some (.builtin "BaseException.__getattribute__"))
  gg : PySem.W.findIn K (.ref C) "__getattr__" = some none
  exC : PySem.W.subIn K (.ref C) (.type "BaseException") = some true
  hdC : PySem.W.hasDictIn K C = true
  cls : PySem.W.findIn K (.ref C) "__class__" = some (some (.builtin "object.__class__"))
  cln : PySem.W.specialIn K (.builtin "object.__class__") "__get__" = some (some (.builtin "getset_descriptor.__get__"))
  clt : PySem.W.takesIn K (.builtin "object.__class__") = some true
  clm : PySem.W.mroIn K C (.type "object") = some true
theorem Ex_given.Tx.xc {K : PySem.W.Frag} {mg : Str → Option Value} {C fI : Addr} {nm : Str} {B newId initId : String} {bmB : List Value} (T : Ex_given.Tx K mg nm B newId initId bmB C fI) : XC K C := ⟨T.ga, T.gg, T.exC, T.hdC, T.cls, T.cln, T.clt, T.clm⟩
theorem Ex_limit.Tx.xc {K : PySem.W.Frag} {mg : Str → Option Value} {C fI : Addr} {nm : Str} {B newId initId : String} {bmB : List Value} (T : Ex_limit.Tx K mg nm B newId initId bmB C fI) : XC K C := ⟨T.ga, T.gg, T.exC, T.hdC, T.cls, T.cln, T.clt, T.clm⟩
/-- the error in hand: its class, its dict -/
structure Hand (K : PySem.W.Frag) (H : Hp) (oe : Obj) (C d : Addr) (fs : List (Str × V)) : Prop where
  xc : XC K C
  cls : oe.cls = .ref C
  dct : oe.dict = some d
  at_ : H d = some (.xd fs)
theorem Hand.mono {K : PySem.W.Frag} {H H' : Hp} {oe : Obj} {C d : Addr} {fs : List (Str × V)} (h : Hand K H oe C d fs) (s : Same H H') : Hand K H' oe C d fs := ⟨h.xc, h.cls, h.dct, s _ _ h.at_⟩
section
variable {X : Cx} {a : Addr} {oe : Obj}
theorem Hand.inst {pins : List (Addr × Obj)} {σ : L2.St} {H : Hp} {s : Shared} {C d : Addr} {fs : List (Str × V)} (I : Inv X pins σ H s) (hp : (a, oe) ∈ X.pn) (hf : ∃ vs, oe.data = .fields vs) (h : Hand X.K H oe C d fs) :
    ∃ od mA, PySem.W.InstAt s.heap a oe C (some od) ∧ s.heap.get? d = some od ∧ s.heap.Ns1 d mA ∧ (∀ f, RelO (fs.lookup f) (mA f)) ∧ ∀ f, PySem.W.lookIn f od = some (mA f) := by
  obtain ⟨ha, _⟩ := I.pin (a, oe) (List.mem_append_left _ hp)
  obtain ⟨vs, hd⟩ := hf
  have hx : ObjOk X.prog X.w H s.heap d (.xd fs) := I.hok d _ h.at_
  obtain ⟨mA, hns, hr⟩ := hx
  obtain ⟨od, ho, hl⟩ := lookIn_ns hns
  exact ⟨od, mA, ⟨ha, h.cls, by unfold PySem.W.notCls; rw [hd] <;> rfl, by rw [h.dct]; exact ho⟩, ho, hns, hr, hl⟩
/-- isinstance(e, c) -/
def rIsX (K : PySem.W.Frag) (a : Addr) (oe : Obj) : List V → Hp → VK → Prop := fun xs H Q => ∃ (C d : Addr) (fs : List (Str × V)) (c : V) (cv : Value) (b : Bool), xs = [.ref a, c] ∧ Hand K H oe C d fs ∧ ClsV c cv ∧ PySem.W.kitOne K (.ref C) cv = some b ∧ Q (.bl b) H
theorem call_isX (hp : (a, oe) ∈ X.pn) (hf : ∃ vs, oe.data = .fields vs) : CallR X (.builtin "isinstance") (rIsX X.K a oe) := by
  intro pins s σ H xs us Q I r h
  obtain ⟨C, d, fs, c, cv, b, rfl, hand, hcv, e, q⟩ := h
  cases r with
  | cons rx rr =>
    cases rr with
    | cons rt rr =>
      cases rr
      cases rx
      have ec := hcv.eq rt
      subst ec
      obtain ⟨od, mA, J, ho, hns, hr, hl⟩ := hand.inst I hp hf
      have cl : (PySem.W.clsIn X.K C).isSome = true := by
        obtain ⟨cd, hc, _⟩ := PySem.W.any_some hand.xc.hdC
        rw [hc] <;> rfl
      exact PySem.W.kia_one (PySem.W.kitx_exc cl hand.xc.ga hand.xc.gg hand.xc.exC hand.xc.cls hand.xc.cln hand.xc.clt hand.xc.clm) I.kIn J e (fun z => nomatch z) fun tk => ⟨.bl b, H, I.kept (t' := tk) fun _ _ z => z, rfl, q⟩
/-- e.f -/
def tFldX (K : PySem.W.Frag) (a : Addr) (oe : Obj) (f : Str) (te : TE) : TE := fun σ H Q => te σ H fun x H1 => x = .ref a ∧ ∃ (C d : Addr) (fs : List (Str × V)) (v : V), Hand K H1 oe C d fs ∧ PySem.W.findIn K (.ref C) f = some none ∧ fs.lookup f = some v ∧ Q v H1
theorem pe_fldX {e : Expr} {te : TE} {pos : Pos} {n : Str} (hp : (a, oe) ∈ X.pn) (hf : ∃ vs, oe.data = .fields vs) (he : PE X e te) (hb : attributeBase e n X.env (eval e X.env) = eval e X.env := by rfl) : PE X (.Attribute e n pos) (tFldX X.K a oe n te) := by
  constructor
  intro pins s σ H Q I h
  refine attr_of hb (thn (he.run pins s σ H _ I h) fun u s1 hh => ?_)
  obtain ⟨x, H1, I1, rx, rfl, C, d, fs, v, hand, hno, l, q⟩ := hh
  obtain rfl : u = Value.ref a := rx
  obtain ⟨od, mA, J, ho, hns, hr, hl⟩ := hand.inst I1 hp hf
  obtain ⟨u, hu, ru⟩ := RelO.some_of (v := v) (o := mA n) (by rw [← l]; exact hr n)
  exact HandSPX.exc_get I1.kIn J hand.xc.ga hand.xc.gg hand.xc.exC (PySem.W.findObj_own hand.xc.hdC hno rfl (by rw [hl, hu])) (handed_of ru) ⟨v, H1, I1.tok _, ru, q⟩
/-! ### xs.count(True), xs a list of bools -/
def rCntB (K : PySem.W.Frag) : V → List V → Hp → VK → Prop := fun x xs H Q => ∃ (p : Addr) (bs : List Bool) (b : Bool), x = .ref p ∧ xs = [.bl b] ∧ SqL K H p (bs.map V.bl) ∧ Q (.int (bs.count b : Nat)) H
def isB (b : Bool) (v : Value) : Bool := match v with
  | .bool c => c == b
  | _ => false
theorem bools_of : ∀ {bs : List Bool} {us : List Value}, Vals (bs.map V.bl) us → us = bs.map Value.bool
  | [], _, h => by cases h; rfl
  | b :: bs, _, h => by
    cases h with
    | cons p q =>
      cases p
      rw [bools_of q]
      rfl
theorem isB_count (b : Bool) : ∀ bs : List Bool, (bs.map Value.bool).countP (isB b) = bs.count b
  | [] => rfl
  | c :: bs => by
    rw [List.map_cons, List.countP_cons, isB_count b bs, List.count_cons]
    rfl
theorem mt_countB : MtR X "list.count" (rCntB X.K) := by
  intro pins s σ H x xs v us Q I rx rxs h
  obtain ⟨p, bs, b, rfl, rfl, hs, q⟩ := h
  cases rx
  obtain ⟨u, rfl, ru⟩ := rxs.one
  cases ru
  obtain ⟨its, rv, ⟨⟨cls, dd, data, sl⟩, n, ho, hc, hdn, hd⟩, hlen⟩ := I.list hs
  simp only at hc hd
  subst hc hd
  obtain rfl := bools_of rv
  refine call_meets PySem.F.slot_list_count ⟨_, ho, rfl⟩ PySem.F.entry_list_count (PySem.F.args_list_count_2 _ _) (SeqAt.list_countAt p (bs.map Value.bool).toArray n dd sl (.bool b) (isB b)) ⟨ho, fun y hy => ?_, ?_⟩
  · have hy : y ∈ bs.map Value.bool := by simpa using hy
    obtain ⟨c, _, rfl⟩ := List.mem_map.mp hy
    exact SeqAt.EqAt.bool_bool c b
  · refine ⟨.int (bs.count b : Nat), H, I.tok _, ⟨s.toks, ?_⟩, q⟩
    show Value.int (((bs.map Value.bool).toArray.toList.countP (isB b) : Nat) : Int) s.toks = Value.int ((bs.count b : Nat) : Int) s.toks
    rw [show (bs.map Value.bool).toArray.toList = bs.map Value.bool from rfl, isB_count]
end
/-! ### repr of any data -/
def dK : Key → PyData
  | .inl i => .int i
  | .inr x => .str x
inductive Rep (K : PySem.W.Frag) (H : Hp) : V → PyData → Prop
  | dp {v : V} {d : PyData} : Dp K H v d → Rep K H v d
  | dct {a : Addr} {kvs : List (Key × Int)} : H a = some (.dK (kvs.map fun p => (p.1, V.int p.2))) → Rep K H (.ref a) (.dict (kvs.map fun p => (dK p.1, PyData.int p.2)))
theorem pairs_keys {P : Program} {w : World} {h : Heap} : ∀ {es : List DictEntry} {kvs : List (Key × Int)} {vs : List (Key × Value)}, Pairs (mixKind P w) es vs → KV (kvs.map fun p => (p.1, V.int p.2)) vs →
    ReadsAll h (es.map (·.key)) ((kvs.map fun p => (dK p.1, PyData.int p.2)).map (·.1)) [] ∧ ReadsAll h (es.map (·.val)) ((kvs.map fun p => (dK p.1, PyData.int p.2)).map (·.2)) []
  | _, [], _, hp, hk => by
    cases hk
    cases hp
    exact ⟨.nil, .nil⟩
  | _, (k, i) :: kvs, _, hp, hk => by
    cases hk with
    | cons e r =>
      cases hp with
      | cons e1 e2 r2 =>
        obtain ⟨h1, h2⟩ := pairs_keys (h := h) (kvs := kvs) r2 r
        obtain ⟨ek, t, ev⟩ := e
        dsimp only at ek ev
        refine ⟨ReadsAll.cons (as := []) (bs := []) ?_ h1, ReadsAll.cons (as := []) (bs := []) ?_ h2⟩
        · dsimp only
          rw [← ek] at e1
          rcases keyIs_shape e1 with ⟨j, t, rfl, e⟩ | ⟨x, t, rfl, e⟩
          · rw [e]
            exact .int j t
          · rw [e]
            exact .str x t
        · dsimp only
          rw [e2, ev]
          exact .int i t
section
variable {X : Cx}
def rRepX (K : PySem.W.Frag) : List V → Hp → VK → Prop := fun vs H Q => ∃ v d, vs = [v] ∧ Rep K H v d ∧ d.showable = true ∧ d.depth ≤ 10 ∧ d.shown.length ≤ sizeLine ∧ Q (.str d.shown) H
theorem call_reprX (hg : X.A.guards = some []) (hu : X.A.units + 64 < cLine) : CallR X (.builtin "repr") (rRepX X.K) := by
  intro pins s σ H xs us Q I r h
  obtain ⟨v, d, rfl, hr, hs, hdep, hsz, hQ⟩ := h
  obtain ⟨u, rfl, ru⟩ := r.one
  have key : ∀ (a : Addr) (as : List Addr), u = .ref a → Reads s.heap (.ref a) d as → (d.hasDict = true → sysModules ∉ as) → wpAny (model X.prog X.w) X.A (call (.builtin "repr") [u]) (EP X pins σ Q) X.xe s := by
    rintro a as rfl R hd
    refine repr_of_reads' R hs hd hg (by omega) (fun b o e => e) (fun h' u tk hk => ?_) hsz
    exact ⟨.str d.shown, H, I.kept hk, ⟨_, rfl⟩, hQ⟩
  have ok : ∀ t, EP X pins σ Q (.str d.shown t) { s with toks := s.toks + 1 } := fun t => ⟨.str d.shown, H, I.tok _, ⟨t, rfl⟩, hQ⟩
  cases hr with
  | dp hd =>
    obtain ⟨as, R⟩ := Dp.reads I d _ _ hd ru
    cases hd with
    | non => cases ru; exact P.repr_of_none (ok _)
    | bl b => cases ru; exact P.repr_of_bool (ok _)
    | int i =>
      obtain ⟨t, rfl⟩ := ru
      exact P.repr_of_int (by simpa [PyData.showable] using hs) (ok _)
    | str x =>
      obtain ⟨t, rfl⟩ := ru
      exact P.repr_of_str (ok _) hsz
    | lst hx ha =>
      have z := noDict _ _ (Dp.lst hx ha)
      cases ru
      exact key _ as rfl R (PyData.noDict_hsm z)
    | tup hx ha =>
      have z := noDict _ _ (Dp.tup hx ha)
      cases ru
      exact key _ as rfl R (PyData.noDict_hsm z)
  | @dct a kvs ha =>
    obtain ⟨_, hsys, vs, rel, o, es, ep, h1, ⟨h2, _, _⟩, h3, h4, h5, _⟩ := dk_of I.hok ha
    obtain ⟨r1, r2⟩ := pairs_keys (h := s.heap) h5 rel
    cases ru
    refine key a ([a] ++ []) rfl (Reads.dict h1 h2 h3 r1 r2) (fun _ hm => ?_)
    have e : sysModules = a := by simpa using hm
    rw [e] at hsys
    simp at hsys
theorem w_reprX {K : PySem.W.Frag} (hg : X.A.guards = some []) (hu : X.A.units + 64 < cLine) (h : X.K = K := by rfl) : CallR X (.builtin "repr") (rRepX K) := by subst h; exact call_reprX hg hu
end
end Rw

set_option Elab.async false
set_option linter.all false
set_option maxRecDepth 100000
set_option maxHeartbeats 4000000
/-! the law's call from above where lambdas are made: the tables of code objects are tracked, no repr is under way -/
namespace Rw
open PySem PySem.Spec PyProof.Rows L2 LamX
section
variable {P : Program} {w : World} {K : PySem.W.Frag} {mg mb : Str → Option Value} {k : Nat} {fa a : Addr} {cs : List (Addr × Addr)} {fd : FuncData} {x : Str} {sp : Sp} {s1 : Shared} {vs : List Value} {ns : List Int}
abbrev tabs (cs : List (Addr × Addr)) : List Addr := cs.map (·.2)
/-- the main module's entry for the built-ins -/
def Mains (h : Heap) (mg : Str → Option Value) : Prop := ∃ (bm : Addr) (ob : Obj), mg "__builtins__" = some (.ref bm) ∧ bm ≠ builtinsNs ∧ h.get? bm = some ob ∧ ob.cls = .type "module" ∧ ob.dict = some builtinsNs ∧ ob.data = .plain
/-- the law's entry -/
structure Entry (K : PySem.W.Frag) (h : Heap) (a : Addr) (vs : List Value) (cs : List (Addr × Addr)) (mg mb : Str → Option Value) : Prop where
  inn : K.In h
  nsg : h.Ns mainGlobals mg
  nsb : h.Ns builtinsNs mb
  boot : ∀ x : Str, x ≠ "__name__" → mb x = bootBuiltins x
  lim : h.NoLimit
  scr : h.get? a = some { cls := .type "list", data := .seq vs.toArray }
  tab : ∀ p ∈ cs, h.get? p.2 = some { cls := .none, data := .fields #[] }
  out : ∀ p ∈ cs, K.lookup p.2 = none
  hd : ∀ p ∈ cs, PySem.W.CodeHd h p.1 p.2
  main : Mains h mg
theorem Entry.empty (Y : Entry K s1.heap a vs cs mg mb) {b : Addr} (h : b ∈ tabs cs) : s1.heap.get? b = some { cls := .none, data := .fields #[] } := by
  obtain ⟨p, hp, rfl⟩ := List.mem_map.mp h
  exact Y.tab p hp
theorem Entry.apart (Y : Entry K s1.heap a vs cs mg mb) : a ∉ tabs cs := by
  intro z
  have q := (Y.scr).symm.trans (Y.empty z)
  have q2 := congrArg Obj.data (Option.some.inj q)
  have q3 : Data.seq vs.toArray _ = Data.fields #[] := q2
  cases q3
/-- what may be tracked there -/
structure Begin (H : Hp) (a : Addr) (cs : List (Addr × Addr)) : Prop where
  tab : ∀ p ∈ cs, H p.2 = some (.tbl #[])
  kind : ∀ b, H b = none ∨ b ∈ tabs cs ∨ ∃ o xs, H b = some (.frz o (.lst xs))
  near : ∀ b, H b ≠ none → b = a ∨ b ∈ tabs cs
theorem Begin.free (B : Begin H a cs) (Y : Entry K s1.heap a vs cs mg mb) {b : Addr} {o : Obj} (e : s1.heap.get? b = some o) (n1 : ∀ us n, o.data ≠ .seq us n) (n2 : o.data ≠ .fields #[]) : H b = none := by
  cases q : H b with
  | none => rfl
  | some u =>
    exfalso
    have some_ : H b ≠ none := by
      rw [q]
      simp
    rcases B.near b some_ with z | z
    · rw [z] at e
      have e2 : some o = some _ := e.symm.trans Y.scr
      injection e2 with e2
      subst e2
      exact n1 _ _ rfl
    · have e2 : some o = some _ := e.symm.trans (Y.empty z)
      injection e2 with e2
      subst e2
      exact n2 rfl
theorem Begin.nsK (B : Begin H a cs) (Y : Entry K s1.heap a vs cs mg mb) {b : Addr} {m : Str → Option Value} (h : s1.heap.Ns b m) : (hidT s1.heap H).Ns b m := by
  obtain ⟨o, es, ep, e, d, r⟩ := h
  have n1 : ∀ us n, o.data ≠ .seq us n := by
    intro us n z
    rw [d] at z
    cases z
  have n2 : o.data ≠ .fields #[] := by
    intro z
    rw [d] at z
    cases z
  exact ⟨o, es, ep, hidT_get e (B.free Y e n1 n2), d, r⟩
theorem Begin.tabB (B : Begin H a cs) (Y : Entry K s1.heap a vs cs mg mb) : ∀ p ∈ cs, TabB (hidT s1.heap H) mg p.1 p.2 := by
  intro p hp
  have tp := Y.tab p hp
  refine ⟨?_, ?_, ?_⟩
  · have c := Y.hd p hp
    obtain ⟨o, us, file, tf, flags, tg, inF, text, tt, e1, r1, r2, r3, rest⟩ := c
    have n1 : ∀ us n, o.data ≠ .seq us n := by
      intro us n z
      rw [r2] at z
      cases z
    have n2 : o.data ≠ .fields #[] := by
      intro z
      rw [r2] at z
      cases z
      simp at r3
    exact ⟨o, us, file, tf, flags, tg, inF, text, tt, hidT_get e1 (B.free Y e1 n1 n2), r1, r2, r3, rest⟩
  · obtain ⟨bm, ob, b1, b2, b3, b4, b5, b6⟩ := Y.main
    have n1 : ∀ us n, ob.data ≠ .seq us n := by
      intro us n z
      rw [b6] at z
      cases z
    have n2 : ob.data ≠ .fields #[] := by
      intro z
      rw [b6] at z
      cases z
    have g1 : bm ≠ mainGlobals := by
      rintro rfl
      obtain ⟨o, es, ep, e, hd, _⟩ := Y.nsg
      rw [b3] at e
      cases e
      rw [b6] at hd
      cases hd
    have g2 : bm ≠ p.2 := by
      rintro rfl
      rw [tp] at b3
      cases b3
      cases b6
    exact ⟨bm, ob, b1, b2, g1, g2, hidT_get b3 (B.free Y b3 n1 n2), b4, b5, b6⟩
  · intro z
    obtain ⟨o, es, ep, e, hd, _⟩ := Y.nsg
    rw [z, tp] at e
    cases e
    cases hd
theorem callGT_core (Y : Entry K s1.heap a vs cs mg mb) (noGens : s1.gens = #[]) (room : Room k callerA)
    (F : ∀ base : Heap, K.In base → base.Ns mainGlobals mg → (∀ p ∈ cs, TabB base mg p.1 p.2) → FnOkG P w K mg base k fa fd [x] sp) (bind : ∀ (s : Shared) (u : Value), BindsTo s fd ⟨[u], []⟩ [(x, u)])
    (H : Hp) (B : Begin H a cs) (hsp : sp [.ref a] H (fun v _ => v = .bl true) fun _ _ _ => False) (ok : HOk P w H s1.heap) (outK : H a ≠ none → K.lookup a = none) :
    codeAny (model P w) callerA (.call (.ref fa) ⟨[.ref a], []⟩) (Fin1 s1) s1 := by
  have inB : K.In (hidT s1.heap H) := by
    intro b o e
    refine hidT_get (Y.inn b o e) ?_
    cases q : H b with
    | none => rfl
    | some u =>
      exfalso
      rcases B.near b (by rw [q]; simp) with z | z
      · rw [z] at e q
        rw [outK (by rw [q]; simp)] at e
        cases e
      · obtain ⟨p, hp, ep⟩ := List.mem_map.mp z
        rw [← ep, Y.out p hp] at e
        cases e
  have md : L2.Mod K mg (hidT s1.heap H) := by
    obtain ⟨mc, h1, h2⟩ := Y.lim
    exact ⟨inB, B.nsK Y Y.nsg, ⟨mb, B.nsK Y Y.nsb, Y.boot⟩, ⟨mc, B.nsK Y h1, h2⟩⟩
  have e0 : Env0 P w K mg (hidT s1.heap H) callerA [] s1 H := by
    refine ⟨rfl, md, fun b o e => of_hidT e, Nat.le_of_eq (hidT_size _ _), trivial, ?_, ok, .of_eq noGens⟩
    intro b hb
    exact absurd (show b ∈ ([] : List Addr) from hb) (by simp)
  refine codeAny_mono ((F _ inB (B.nsK Y Y.nsg) (B.tabB Y)).run callerA [] s1 H ⟨[.ref a], []⟩ [.ref a] [.ref a] _ _ rfl room e0 (bind s1 (.ref a)) (.cons rfl .nil) hsp) ?_
  intro r s' h
  cases r with
  | error e => exact False.elim h
  | ok fl =>
    cases fl with
    | next => exact False.elim h
    | brk => exact False.elim h
    | cont => exact False.elim h
    | ret u =>
      obtain ⟨v, H', os, bare, un, ok', rv, q⟩ := h
      have q : v = .bl true := q
      subst q
      have ru : u = Value.bool true := rv
      subst ru
      have kept : ∀ b o, b ∉ tabs cs → s1.heap.get? b = some o → s'.heap.get? b = some o := by
        intro b o nb e
        cases q : H b with
        | none => exact un.keep b o e q (fun z => absurd (show b ∈ ([] : List Addr) from z) (by simp)) (by simp)
        | some u =>
          rcases B.kind b with z | z | ⟨ob, xs, z⟩
          · rw [q] at z
            cases z
          · exact absurd z nb
          · obtain ⟨e1, _⟩ := ok b _ z
            obtain ⟨e2, _⟩ := ok' b _ (un.frzs b ob _ z)
            rw [e] at e1
            cases e1
            exact e2
      have more : ∀ p ∈ cs, ∃ add : Array Value, s'.heap.get? p.2 = some { cls := .none, data := .fields add } := by
        intro p hp
        obtain ⟨add, z⟩ := un.tbls p.2 #[] (B.tab p hp)
        exact ⟨_, ok' p.2 _ z⟩
      refine ⟨rfl, ⟨?_, ?_⟩, os, bare⟩
      · intro b o e
        by_cases hb : b ∈ tabs cs
        · obtain ⟨p, hp, rfl⟩ := List.mem_map.mp hb
          obtain ⟨add, hm⟩ := more p hp
          have ez := e.symm.trans (Y.tab p hp)
          cases ez
          exact .inr (.inl ⟨((Y.hd p hp).tab (Y.tab p hp)).isCodeTable, rfl, #[], add, rfl, by rw [Array.empty_append]; exact hm⟩)
        · exact .inl (kept b o hb e)
      · intro b o e
        by_cases hb : b ∈ tabs cs
        · obtain ⟨p, hp, rfl⟩ := List.mem_map.mp hb
          obtain ⟨add, hm⟩ := more p hp
          exact ⟨_, hm⟩
        · exact ⟨o, kept b o hb e⟩
theorem callGT (Y : Entry K s1.heap a vs cs mg mb) (noGens : s1.gens = #[]) (hi : IntsAre vs ns) (hl : ns.length ≤ sizeLine) (room : Room k callerA)
    (F : ∀ base : Heap, K.In base → base.Ns mainGlobals mg → (∀ p ∈ cs, TabB base mg p.1 p.2) → FnOkG P w K mg base k fa fd [x] sp) (bind : ∀ (s : Shared) (u : Value), BindsTo s fd ⟨[u], []⟩ [(x, u)])
    (hsp : ∀ H : Hp, (∀ p ∈ cs, H p.2 = some (.tbl #[])) → SqL K H a (ns.map V.int) → sp [.ref a] H (fun v _ => v = .bl true) fun _ _ _ => False) :
    codeAny (model P w) callerA (.call (.ref fa) ⟨[.ref a], []⟩) (Fin1 s1) s1 := by
  have rv := vals_ints hi
  have lenV := hi.length
  have at_ : ∀ p ∈ cs, p.2 ∈ tabs cs := fun p hp => List.mem_map_of_mem hp
  have na := Y.apart
  cases hk : K.lookup a with
  | some o =>
    have e := Y.inn a o hk
    rw [Y.scr] at e
    cases e
    let H : Hp := fun b => if b ∈ tabs cs then some (.tbl #[]) else none
    have B : Begin H a cs := by
      refine ⟨fun p hp => if_pos (at_ p hp), fun b => ?_, fun b hb => ?_⟩
      · by_cases c : b ∈ tabs cs
        · exact .inr (.inl c)
        · exact .inl (if_neg c)
      · by_cases c : b ∈ tabs cs
        · exact .inr c
        · exact absurd (if_neg c) hb
    refine callGT_core Y noGens room F bind H B (hsp H B.tab ?_) ?_ (fun z => absurd (if_neg na) z)
    · exact .inr ⟨_, vs.toArray, _, hk, rfl, rfl, rfl, by rw [List.size_toArray, lenV]; exact hl, by simpa using rv⟩
    · intro b u z
      by_cases c : b ∈ tabs cs
      · have z' := (show H b = _ from if_pos c).symm.trans z
        cases z'
        exact Y.empty c
      · have z' := (show H b = _ from if_neg c).symm.trans z
        cases z'
  | none =>
    let H : Hp := fun b => if b = a then some (.frz { cls := .type "list", data := .seq vs.toArray } (.lst (ns.map V.int))) else if b ∈ tabs cs then some (.tbl #[]) else none
    have Hat : ∀ b, b ≠ a → H b = if b ∈ tabs cs then some (.tbl #[]) else none := fun b hb => if_neg hb
    have B : Begin H a cs := by
      refine ⟨fun p hp => ?_, fun b => ?_, fun b hb => ?_⟩
      · have ne : p.2 ≠ a := fun z => na (by rw [← z]; exact at_ p hp)
        rw [Hat _ ne, if_pos (at_ p hp)]
      · by_cases e : b = a
        · exact .inr (.inr ⟨_, _, if_pos e⟩)
        · by_cases c : b ∈ tabs cs
          · exact .inr (.inl c)
          · exact .inl ((Hat b e).trans (if_neg c))
      · by_cases e : b = a
        · exact .inl e
        · by_cases c : b ∈ tabs cs
          · exact .inr c
          · exact absurd ((Hat b e).trans (if_neg c)) hb
    refine callGT_core Y noGens room F bind H B (hsp H B.tab ?_) ?_ (fun _ => hk)
    · exact .inl (.inr ⟨{ cls := .type "list", data := .seq vs.toArray }, if_pos rfl⟩)
    · intro b u z
      by_cases e : b = a
      · have z' := (show H b = _ from if_pos e).symm.trans z
        cases z'
        subst e
        exact ⟨Y.scr, by rw [List.length_map]; exact hl, vs, _, rv, Y.scr⟩
      · rw [Hat b e] at z
        by_cases c : b ∈ tabs cs
        · rw [if_pos c] at z
          cases z
          exact Y.empty c
        · rw [if_neg c] at z
          cases z
theorem walkGT {l : PySem.W.OpenLaw} {n k : Nat} {q : Program} {loose : List Str} {XP : (Str → Option Value) → Heap → Prop} {YP : World → Heap → Prop} {d : DefRec} {sp : PySem.W.Frag → List (Addr × Addr) → Sp} {x : Str}
    (hn : l.most = some n) (hn2 : n ≤ sizeLine) (hdf : d.params.defaults = []) (room : Room k callerA)
    (F : ∀ (w : World) (mg : Str → Option Value) (fa : Addr) (h : Heap), YP w h → h.Ns mainGlobals mg → mg d.name = some (.ref fa) →
      ∃ (K : PySem.W.Frag) (cs : List (Addr × Addr)) (fd : FuncData), K.In h ∧ (∀ p ∈ cs, h.get? p.2 = some { cls := .none, data := .fields #[] }) ∧ (∀ p ∈ cs, K.lookup p.2 = none) ∧ (∀ p ∈ cs, PySem.W.CodeHd h p.1 p.2) ∧
        (∀ (s : Shared) (u : Value), BindsTo s fd ⟨[u], []⟩ [(x, u)]) ∧ (∀ (H : Hp) (a : Addr) (ns : List Int), ns.length ≤ n → (∀ p ∈ cs, H p.2 = some (.tbl #[])) → SqL K H a (ns.map V.int) → sp K cs [.ref a] H (fun v _ => v = .bl true) fun _ _ _ => False) ∧
        ∀ base : Heap, K.In base → base.Ns mainGlobals mg → (∀ p ∈ cs, TabB base mg p.1 p.2) → FnOkG l.prog w K mg base k fa fd [x] (sp K cs)) :
    PySem.W.WalkO q loose XP YP l.row.toRowW d [] (fun f vs => PySem.call f vs) := by
  refine Att.attach_call hn hdf (fun w s0 s1 mg mb fa o pm cd doc a vs ns G Y ho hd hcd hmg hobj hints hlen hg => ?_)
  obtain ⟨K, cs, fd, KX, hT, nT, C, hb, hsp, hF⟩ := F w mg fa _ Y G.T.g hmg
  have En : Entry K s1.heap a vs cs mg mb := ⟨KX, G.T.g, G.T.b, G.T.builtins, G.T.nolimit, hobj, hT, nT, C, G.T.bmain⟩
  exact callGT En hg hints (Nat.le_trans hlen hn2) room hF hb (fun H h1 h2 => hsp H a ns hlen h1 h2)
end
end Rw

set_option Elab.async false
set_option linter.all false
set_option maxRecDepth 100000
set_option maxHeartbeats 4000000
/-! defs that make lambdas, defs that may raise -/
namespace Rw
open PySem PySem.Spec PyProof.Rows L2
structure FunC (K : PySem.W.Frag) (x qual : Str) (st : Stmt) (f : Addr) (fd : FuncData) (c : Addr) : Prop where
  ex : ∃ (oc : Value) (od : Option Addr) (kV doc pm : Value) (an : Option Addr) (ct : Value) (osl : Array (Option Value)),
    fd = PySem.W.fnOf x qual (defArgs st) (defBody st) (defScope st) .none kV doc pm an (.ref c) ct ∧ K.lookup f = some ⟨oc, od, .func fd, osl⟩ ∧ PySem.W.codeIn K (.ref c) qual = true
  kp : PySem.W.keepIn K (.ref f) = true
theorem FunC.fn {K : PySem.W.Frag} {x qual : Str} {st : Stmt} {f : Addr} {fd : FuncData} {c : Addr} (F : FunC K x qual st f fd c) : Fun K x qual st f fd :=
  let ⟨oc, od, kV, doc, pm, an, ct, osl, e, l, h⟩ := F.ex
  ⟨⟨oc, od, kV, doc, pm, an, .ref c, ct, osl, e, l, h⟩, F.kp⟩
section
variable {P : Program} {w : World} {K : PySem.W.Frag} {mg : Str → Option Value} {base : Heap} {f : Addr} {fd : FuncData} {N ps : List Str} {k : Nat} {sp : Sp} {x qual : Str} {st : Stmt}
theorem okGC {c : Addr} (F : FunC K x qual st f fd c) (S : FnScope N ps (defScope st)) (len : ∀ vs H Q E, sp vs H Q E → vs.length = ps.length)
    (hbody : ∀ (A : Around) (outer : List Env) (s : Shared) (H : Hp) (vs : List V) (Q : VK) (E : XK), A.guards = some [] →
      Room k (A.deeper (envOfC qual (defScope st) s.heap.objs.size f (.ref c))) → sp vs H Q E →
      ∃ t, PSs (cxOf CX0 P w K mg base N qual (defScope st) f (.ref c) A outer s H E).nox (defBody st) t ∧ t { nx := fun _ H' => Q .non H', rt := Q } (start N vs) H) :
    FnOkG P w K mg base (k + 1) f fd ps sp := by
  obtain ⟨oc, od, kV, doc, pm, an, ct, osl, rfl, lk, hcd⟩ := F.ex
  refine ⟨len, fun A outer s H args us vs Q E hg hr e0 hb r hsp => ?_⟩
  have hl := len _ _ _ _ hsp
  have inn : K.In s.heap := e0.mod.kin.keeps (fun b o e => (e0.bs b o e).1)
  have nolim : s.heap.NoLimit := e0.mod.nolimit.keeps (fun b o e => (e0.bs b o e).1)
  have kinds : ∀ y ∈ ps.zip us, (defScope st).names.lookup y.1 = some .local ∨
      ((defScope st).names.lookup y.1 = some .cell ∧ ((cellsFrom (s.heap.objs.size + 1) (defScope st).names []).lookup y.1).isSome = true) := by
    rintro ⟨n, v⟩ hy
    rcases S.par n (List.of_mem_zip hy).1 with q | q
    · exact .inl q
    · exact .inr ⟨q, PySem.W.cellsFrom_some _ _ _ (.inl q)⟩
  refine codeAny_call_function hr.depth (inn _ _ lk) rfl S.co S.gen rfl (PySem.W.codeRec_of inn hcd) (hb _ _ _ _ ?_)
  refine wpAny_newFunctionEnv_cells S.kind kinds (fun env he s1 x => ?_)
  subst he
  refine ⟨nolim.keeps x.toInCall.keep, codeAny_func ?_⟩
  obtain ⟨t, ht, hq⟩ := hbody A outer s H vs Q E hg (hr.deeper _) hsp
  have I := inv_start (CX := CX0) (P := P) (w := w) (K := K) (mg := mg) (base := base) (qual := qual) (f := f) (cd := .ref c) (E := E) S hr.hd e0 hl r x
  refine wpAny_mono (ht.nox.run [] s1 (start N vs) H _ I hq) (fun fl s' hs => ?_) (fun e s' hs => hs)
  cases fl with
  | ret u =>
    obtain ⟨v, σ', H', J, rv, q⟩ := hs
    exact ⟨v, H', J.os, J.bare, J.base, J.hok, rv, q⟩
  | next =>
    obtain ⟨σ', H', J, q⟩ := hs
    exact ⟨V.non, H', J.os, J.bare, J.base, J.hok, rfl, q⟩
  | brk =>
    obtain ⟨_, _, _, q⟩ := hs
    exact False.elim q
  | cont =>
    obtain ⟨_, _, _, q⟩ := hs
    exact False.elim q
end
def calm (sp : Sp) : Sp := fun vs H Q _ => sp vs H Q fun _ _ _ => False
theorem fnCalm {P : Program} {w : World} {K : PySem.W.Frag} {mg : Str → Option Value} {base : Heap} {f : Addr} {fd : FuncData} {ps : List Str} {k : Nat} {sp : Sp} (F : FnOk P w K mg base (L2.CX P w) k f fd ps sp) : FnOk P w K mg base CX0 k f fd ps (calm sp) := by
  refine ⟨fun vs H Q E h => F.len _ _ _ _ h, fun A outer s H args us vs Q E hr e0 hb r h => codeAny_mono (F.run A outer s H args us vs Q (fun _ _ _ => False) hr e0 hb r h) fun res s' hq => ?_⟩
  cases res with
  | error e =>
    obtain ⟨_, _, _, _, _, _, _, _, _, _, _, _, z⟩ := hq
    exact z.elim
  | ok fl =>
    cases fl with
    | ret u => exact hq
    | next => exact hq
    | brk => exact hq
    | cont => exact hq
theorem passX {X : Cx} {E : XK} (hs : X.stack = X.env :: X.outer) (hf : X.env.frame = some X.env.locals) (hex : X.ex = []) {E₁ : Value → Shared → Prop}
    (hx : X.xe = fun e s' => wpAny (model X.prog X.w) X.A (leaving X.env e) (fun _ s'' => L2.CX X.prog X.w X.outer X.H_0 X.s_0 E e s'') E₁ s') : Passes (L2.CX X.prog X.w) X E :=
  passes_call (takes_of hs hf hex hx) fun _ _ _ _ h => h
theorem huH {k : Nat} {A : Around} (r : L2H.RoomH k A) : A.units + 64 < cLine := by have := r.un; omega
end Rw

set_option Elab.async false
set_option linter.all false
set_option maxRecDepth 100000
set_option maxHeartbeats 4000000
/-! rules of our own: new lists that are not the table of modules; data of any kind, dicts within; a list beside an empty one; repr and truth of an own instance; tuples mirrored, taken no times, joined -/
namespace Rw
open PySem PySem.Spec PyProof.Rows L2
section
variable {X : Cx}
/-- what is laid now lies behind the first few objects -/
theorem late {pins : List (Addr × Obj)} {σ : L2.St} {H : Hp} {s : Shared} (I : Inv X pins σ H s) : (s.heap.objs.size == sysModules) = false := by
  obtain ⟨o, es, ep, e, _⟩ := I.ok.mod.glob
  have h := Heap.lt_size (I.bk _ _ e)
  have h : 3 < s.heap.objs.size := h
  refine beq_eq_false_iff_ne.mpr fun z => ?_
  have z : s.heap.objs.size = 1 := z
  omega
def tLstN (t : TA) : TE := fun σ H Q => t σ H fun xs H1 => xs.length ≤ sizeLine ∧ ∀ p, H1 p = none → (p == sysModules) = false → Q (.ref p) (upd H1 p (.lst xs))
theorem pe_lstN {es : List Expr} {t : TA} {pos : Pos} (ha : PA X es t) : PE X (.List es pos) (tLstN t) := by
  constructor
  intro pins st env Hh Qq Iv hh
  refine wpAny_List_spliced (thn (ha.run pos pins st env Hh _ Iv hh) ?_)
  rintro us st1 ⟨xs, H1, I1, rv, z, q⟩
  have hn := I1.hok.fresh (Nat.le_refl _)
  refine ⟨by rw [← rv.length]; exact z, ?_⟩
  refine ⟨.ref st1.heap.objs.size, _, I1.laid (t' := st1.toks) (o := .lst xs) (fun b u e => Heap.get?_push_of_some _ e) (Nat.le_refl _) ?_, rfl, q _ hn (late I1)⟩
  exact ⟨z, us, 0, rv, Heap.get?_push_size _ rfl⟩
def rListN (K : PySem.W.Frag) : List V → Hp → VK → Prop := fun xs H Q => ∃ p ys, xs = [.ref p] ∧ SqT K H p ys ∧ ∀ l, H l = none → (l == sysModules) = false → Q (.ref l) (upd H l (.lst ys))
theorem call_listN : CallR X (.type "list") (rListN X.K) := by
  intro pins s σ H xs us Q I rx h
  obtain ⟨p, ys, rfl, hq, q⟩ := h
  obtain rfl := Vals.ref1 rx
  obtain ⟨its, rv, pl, hz⟩ := I.tuple hq
  obtain ⟨o, ho, hc, n, hd⟩ := pl
  have hlen := rv.length
  refine call_list_seq p (.inr rfl) ho hc hd (fun h' c' kp e => ?_) (by simp only [List.size_toArray] <;> omega)
  exact ⟨.ref s.heap.objs.size, _, I.laid (t' := s.toks) kp (Nat.le_refl _) (show ObjOk X.prog X.w _ h' _ (.lst ys) from ⟨hz, its, c', rv, e⟩), rfl, q _ (I.hok.fresh (Nat.le_refl _)) (late I)⟩
theorem w_listN {K : PySem.W.Frag} (h : X.K = K := by rfl) : CallR X (.type "list") (rListN K) := by subst h; exact call_listN
end
/-! ### data of any kind -/
mutual
inductive Rp (K : PySem.W.Frag) (H : Hp) : V → PyData → Prop
  | non : Rp K H .non .none
  | bl (b : Bool) : Rp K H (.bl b) (.bool b)
  | int (i : Int) : Rp K H (.int i) (.int i)
  | str (x : Str) : Rp K H (.str x) (.str x)
  | lst {a : Addr} {xs : List V} {ds : List PyData} : (a == sysModules) = false → H a = some (.lst xs) → RpAll K H xs ds → Rp K H (.ref a) (.list ds)
  | tup {a : Addr} {xs : List V} {ds : List PyData} : SqT K H a xs → RpAll K H xs ds → Rp K H (.ref a) (.tuple ds)
  | dct {a : Addr} {kvs : List (Key × Int)} : H a = some (.dK (kvs.map fun p => (p.1, V.int p.2))) → Rp K H (.ref a) (.dict (kvs.map fun p => (dK p.1, PyData.int p.2)))
inductive RpAll (K : PySem.W.Frag) (H : Hp) : List V → List PyData → Prop
  | nil : RpAll K H [] []
  | cons {v : V} {d : PyData} {vs : List V} {ds : List PyData} : Rp K H v d → RpAll K H vs ds → RpAll K H (v :: vs) (d :: ds)
end
theorem sqT_on {K : PySem.W.Frag} {H H' : Hp} (e : ∀ a o, H a = some o → (∀ ps, o ≠ .tbl ps) → H' a = some o) {a : Addr} {xs : List V} (h : SqT K H a xs) : SqT K H' a xs := by
  rcases h with (h | ⟨o, h⟩) | h
  · exact .inl (.inl (e _ _ h fun ps z => by cases z))
  · exact .inl (.inr ⟨o, e _ _ h fun ps z => by cases z⟩)
  · exact .inr h
mutual
theorem Rp.ext {K : PySem.W.Frag} {H H' : Hp} (e : ∀ a o, H a = some o → (∀ ps, o ≠ .tbl ps) → H' a = some o) : ∀ {v : V} (d : PyData), Rp K H v d → Rp K H' v d
  | _, .none, h => by cases h; exact .non
  | _, .bool b, h => by cases h; exact .bl b
  | _, .int i, h => by cases h; exact .int i
  | _, .str x, h => by cases h; exact .str x
  | _, .list ds, h => by
    cases h with
    | lst n a b => exact .lst n (e _ _ a fun ps z => by cases z) (RpAll.ext e ds b)
  | _, .tuple ds, h => by
    cases h with
    | tup a b => exact .tup (sqT_on e a) (RpAll.ext e ds b)
  | _, .dict _, h => by
    cases h with
    | dct a => exact .dct (e _ _ a fun ps z => by cases z)
theorem RpAll.ext {K : PySem.W.Frag} {H H' : Hp} (e : ∀ a o, H a = some o → (∀ ps, o ≠ .tbl ps) → H' a = some o) : ∀ {vs : List V} (ds : List PyData), RpAll K H vs ds → RpAll K H' vs ds
  | _, [], h => by cases h; exact .nil
  | _, d :: ds, h => by
    cases h with
    | cons a b => exact .cons (Rp.ext e d a) (RpAll.ext e ds b)
end
mutual
theorem Rp.dp {K : PySem.W.Frag} {H : Hp} : ∀ {v : V} (d : PyData), Rp K H v d → d.hasDict = false → Dp K H v d
  | _, .none, h, _ => by cases h; exact .non
  | _, .bool b, h, _ => by cases h; exact .bl b
  | _, .int i, h, _ => by cases h; exact .int i
  | _, .str x, h, _ => by cases h; exact .str x
  | _, .list ds, h, z => by
    cases h with
    | lst n a b => exact .lst (.inl (.inl a)) (RpAll.dp ds b (by simpa only [PyData.hasDict] using z))
  | _, .tuple ds, h, z => by
    cases h with
    | tup a b => exact .tup a (RpAll.dp ds b (by simpa only [PyData.hasDict] using z))
  | _, .dict _, h, z => by simp only [PyData.hasDict] at z; cases z
theorem RpAll.dp {K : PySem.W.Frag} {H : Hp} : ∀ {vs : List V} (ds : List PyData), RpAll K H vs ds → PyData.hasDictAll ds = false → DpAll K H vs ds
  | _, [], h, _ => by cases h; exact .nil
  | _, d :: ds, h, z => by
    cases h with
    | cons a b =>
      simp only [PyData.hasDictAll, Bool.or_eq_false_iff] at z
      exact .cons (Rp.dp d a z.1) (RpAll.dp ds b z.2)
end
mutual
theorem Rp.reads {X : Cx} {pins : List (Addr × Obj)} {σ : L2.St} {H : Hp} {s : Shared} (I : Inv X pins σ H s) : ∀ (d : PyData) {v : V} {u : Value}, Rp X.K H v d → RelV v u → ∃ as, Reads s.heap u d as ∧ sysModules ∉ as
  | .none, _, _, h, r => by cases h; cases r; exact ⟨_, .none, by simp⟩
  | .bool b, _, _, h, r => by cases h; cases r; exact ⟨_, .bool b, by simp⟩
  | .int i, _, _, h, r => by cases h; obtain ⟨t, rfl⟩ := r; exact ⟨_, .int i t, by simp⟩
  | .str x, _, _, h, r => by cases h; obtain ⟨t, rfl⟩ := r; exact ⟨_, .str x t, by simp⟩
  | .list ds, _, _, h, r => by
    cases h with
    | lst n a b =>
      cases r
      obtain ⟨its, rv, pl, _⟩ := I.list (.inl (.inl a))
      obtain ⟨o, ho, hc, m, hd⟩ := pl.isList
      obtain ⟨as, h1, h2⟩ := RpAll.reads I ds b rv
      refine ⟨_, .list ho hc hd h1, fun z => ?_⟩
      rcases List.mem_cons.mp z with z | z
      · rw [z] at n
        simp at n
      · exact h2 z
  | .tuple ds, _, _, h, r => by
    cases h with
    | tup a b =>
      cases r
      obtain ⟨its, rv, ⟨o, ho, hc, m, hd⟩, _⟩ := I.tuple a
      obtain ⟨as, h1, h2⟩ := RpAll.reads I ds b rv
      exact ⟨_, .tuple ho hc hd h1, h2⟩
  | .dict _, _, _, h, r => by
    cases h with
    | @dct a kvs ha =>
      obtain ⟨_, hsys, vs, rel, o, es, ep, h1, ⟨h2, _, _⟩, h3, h4, h5, _⟩ := dk_of I.hok ha
      obtain ⟨r1, r2⟩ := pairs_keys (h := s.heap) h5 rel
      cases r
      refine ⟨[a] ++ [], Reads.dict h1 h2 h3 r1 r2, fun hm => ?_⟩
      have e : sysModules = a := by simpa using hm
      rw [e] at hsys
      simp at hsys
theorem RpAll.reads {X : Cx} {pins : List (Addr × Obj)} {σ : L2.St} {H : Hp} {s : Shared} (I : Inv X pins σ H s) : ∀ (ds : List PyData) {vs : List V} {us : List Value}, RpAll X.K H vs ds → Vals vs us → ∃ as, ReadsAll s.heap us ds as ∧ sysModules ∉ as
  | [], _, _, h, r => by cases h; cases r; exact ⟨_, .nil, by simp⟩
  | d :: ds, _, _, h, r => by
    cases h with
    | cons a b =>
      cases r with
      | cons r1 r2 =>
        obtain ⟨as, h1, h2⟩ := Rp.reads I d a r1
        obtain ⟨bs, h3, h4⟩ := RpAll.reads I ds b r2
        exact ⟨_, .cons h1 h3, by rw [List.mem_append]; exact fun z => z.elim h2 h4⟩
end
section
variable {X : Cx}
def rRepR (K : PySem.W.Frag) : List V → Hp → VK → Prop := fun vs H Q => ∃ v d, vs = [v] ∧ Rp K H v d ∧ d.showable = true ∧ d.depth ≤ 10 ∧ d.shown.length ≤ sizeLine ∧ Q (.str d.shown) H
theorem call_reprR (hg : X.A.guards = some []) (hu : X.A.units + 64 < cLine) : CallR X (.builtin "repr") (rRepR X.K) := by
  intro pins s σ H xs us Q I rx h
  obtain ⟨v, d, rfl, hr, hs, hdep, hsz, hQ⟩ := h
  obtain ⟨u, rfl, ru⟩ := rx.one
  obtain ⟨as, R, nas⟩ := Rp.reads I d hr ru
  have ok : ∀ t, EP X pins σ Q (.str d.shown t) { s with toks := s.toks + 1 } := fun t => ⟨.str d.shown, H, I.tok _, ⟨t, rfl⟩, hQ⟩
  have go : ∀ a, u = .ref a → wpAny (model X.prog X.w) X.A (call (.builtin "repr") [u]) (EP X pins σ Q) X.xe s := by
    rintro a rfl
    refine repr_of_reads' R hs (fun _ => nas) hg (by omega) (fun b o e => e) (fun h' w tk hk => ?_) hsz
    exact ⟨.str d.shown, H, I.kept hk, ⟨_, rfl⟩, hQ⟩
  cases hr with
  | non => cases ru; exact P.repr_of_none (ok _)
  | bl b => cases ru; exact P.repr_of_bool (ok _)
  | int i =>
    obtain ⟨t, rfl⟩ := ru
    exact P.repr_of_int (by simpa [PyData.showable] using hs) (ok _)
  | str x =>
    obtain ⟨t, rfl⟩ := ru
    exact P.repr_of_str (ok _) hsz
  | lst n a b => cases ru; exact go _ rfl
  | tup a b => cases ru; exact go _ rfl
  | dct a => cases ru; exact go _ rfl
theorem w_reprR {K : PySem.W.Frag} (hg : X.A.guards = some []) (hu : X.A.units + 64 < cLine) (h : X.K = K := by rfl) : CallR X (.builtin "repr") (rRepR K) := by subst h; exact call_reprR hg hu
/-! ### a list beside an empty one -/
def rNeNil (K : PySem.W.Frag) : R2 := fun x y H Q => ∃ a b xs, x = .ref a ∧ y = .ref b ∧ SqL K H a xs ∧ SqL K H b [] ∧ Q (.bl (!xs.isEmpty)) H
theorem op_neNil (hu : X.A.units + 64 < cLine) : OpR X (compareOp .NotEq) (rNeNil X.K) := by
  intro pins s σ H x y v u Q I rx ry h
  obtain ⟨a, b, xs, rfl, rfl, ha, hb, q⟩ := h
  cases rx
  cases ry
  obtain ⟨its, r1, p1, _⟩ := I.list ha
  obtain ⟨its2, r2, p2, _⟩ := I.list hb
  cases r2
  have fin : EP X pins σ Q (.bool (!xs.isEmpty)) s := ⟨.bl _, H, I, rfl, q⟩
  have cu : X.A.units < cLine := by omega
  cases r1 with
  | nil =>
    refine PySem.SeqAt.RcNeAt.lists (e := fun _ => true) p1.isList p2.isList rfl cu (fun j h1 h2 => absurd h1 (by simp)) X.prog X.w _ _ ?_
    exact fin
  | cons c d =>
    refine PySem.SeqAt.RcNeAt.lists_lengths p1.isList p2.isList (by simp) cu X.prog X.w _ _ ?_
    exact fin
theorem w_neNil {K : PySem.W.Frag} (hu : X.A.units + 64 < cLine) (h : X.K = K := by rfl) : OpR X (compareOp .NotEq) (rNeNil K) := by subst h; exact op_neNil hu
end
end Rw

set_option Elab.async false
set_option linter.all false
set_option maxRecDepth 100000
set_option maxHeartbeats 4000000
namespace Rw
open PySem PySem.Spec PyProof.Rows L2
/-! ### repr and truth of an own instance -/
section
variable {X : Cx} {CX : CXT} {k : Nat} {f C : Addr} {fd : FuncData} {ps : List Str} {sp : Sp} {E : XK}
def rReprO (C : Addr) (sp : Sp) (E : XK) : List V → Hp → VK → Prop := fun vs H Q => ∃ a dx fs, vs = [.ref a] ∧ H a = some (.ins C dx fs) ∧
  sp [.ref a] H (fun v H2 => ∃ z : Str, v = .str z ∧ Q (.str z) H2) E
theorem call_reprO (F : FnOk X.prog X.w X.K X.mg X.base CX k f fd ps sp) (room : Room (k + 1) X.A)
    (own : PySem.W.findIn X.K (.ref C) "__repr__" = some (some (.ref f))) (isf : PySem.W.isFn X.K (.ref f) = true)
    (b : L2.Binds X.K fd ps []) (pass : Passes CX X E) : CallR X (.builtin "repr") (rReprO C sp E) := by
  intro pins s σ H xs us Q I r h
  obtain ⟨a, dx, fs, rfl, ha, hsp⟩ := h
  obtain rfl := Vals.ref1 r
  obtain ⟨mA, O, _, _, _, _⟩ := ins_get I.hok ha
  obtain ⟨od, J, _⟩ := O.look
  obtain ⟨m, hF⟩ := I.fr
  refine PySem.W.repr_K room.in1.units0 hF I.ok.mod.kin J own isf ?_
  have hl := F.len _ _ _ _ hsp
  refine wpAny_call (codeAny_mono (F.run X.A.in1 X.stack s H ⟨[.ref a], []⟩ [.ref a] [.ref a] _ E room.in1 I.env0.in1 (by
    have := b s [.ref a] I.kIn (by simpa using hl)
    simpa using this) (.cons rfl .nil) hsp) fun r s' hq => ?_)
  cases r with
  | error e => exact pass pins σ H s e s' I hq
  | ok fl =>
    cases fl with
    | ret w =>
      obtain ⟨z, H', I', rz, t, ez, hQ⟩ := I.after hq
      subst ez
      obtain ⟨u, rfl⟩ := rz
      exact ⟨.str t, H', I', ⟨_, rfl⟩, hQ⟩
    | next => exact False.elim hq
    | brk => exact False.elim hq
    | cont => exact False.elim hq
end
section
variable {prog : Program} {w : World} {A : Around} {E : Value → Shared → Prop} {s : Shared} {K : PySem.W.Frag} {x C f : Addr} {ox : Obj} {od : Option Obj}
/-- the truth of an instance by its own __len__, no __bool__ -/
theorem truthy_len {Q : Bool → Shared → Prop} (X : K.In s.heap) (I : PySem.W.InstAt s.heap x ox C od) (hb : PySem.W.findIn K (.ref C) "__bool__" = some none) (hl : PySem.W.findIn K (.ref C) "__len__" = some (some (.ref f))) (hf : PySem.W.isFn K (.ref f) = true)
    (h : wpAny (model prog w) A.in1 (call (.ref f) [.ref x]) (fun v s' => ∃ (n : Nat) (t : Tok), v = .int (n : Int) t ∧ (n : Int) < 2 ^ 63 ∧ Q ((n : Int) != 0) { s' with toks := s'.toks + 1 }) E s) : wpAny (model prog w) A (truthy (.ref x)) Q E s := by
  have hsp : ∀ {Q' : Option Value → Shared → Prop}, Q' (some (.ref f)) s → wpAny (model prog w) A (specialOf (.ref x) "__len__") Q' E s := fun q => by
    unfold specialOf
    exact wpAny_bind (I.type.here ((PySem.W.looks_findIn X hl).here q))
  have run : wpAny (model prog w) A (runValue (.builtin "len" ⟨[.ref x], []⟩)) (fun r s' => ∃ (n : Nat) (t : Tok), r = .int (n : Int) t ∧ Q ((n : Int) != 0) s') E s := by
    refine wpAny_runValue (codeAny_builtin entry_len ?_)
    rw [Around.under_plainId plain_len _]
    unfold Builtin.«len»
    refine wpAny_bind (m := oneArg "len" _) (wpAny_pure ?_)
    refine wpAny_bind (m := callSpecial? (.ref x) (Str.ofString "__len__")) (PySem.W.special_fn X I hl (beq_iff_eq.mp hf) (wpAny_mono h (fun r s' hr => ?_) fun _ _ y => y))
    obtain ⟨n, u, rfl, hn, q⟩ := hr
    refine wpAny_bind (wpAny_holding (wpAny_pure ?_))
    refine wpAny_bind (wpAny_letGo ?_)
    refine wpAny_ite_false (decide_eq_false (show ¬ (n : Int) < 0 by omega)) ?_
    refine wpAny_ite_false (decide_eq_false (show ¬ (n : Int) ≥ 2 ^ 63 by omega)) ?_
    exact wpAny_bind (wpAny_mkInt (wpAny_pure ⟨n, _, rfl, q⟩))
  unfold truthy
  first
    | refine wpAny_bind (DSub.special_no (name := Str.ofString "__bool__") X I hb ?_)
    | refine wpAny_bind (wpAny_pure (wpAny_bind (DSub.special_no (name := Str.ofString "__bool__") X I hb ?_)))
  first
    | refine wpAny_bind (hsp ?_)
    | refine wpAny_bind (wpAny_pure (wpAny_bind (hsp ?_)))
  refine wpAny_bind (wpAny_mono run (fun r s' hr => ?_) fun _ _ e => e)
  obtain ⟨n, t, rfl, q⟩ := hr
  exact wpAny_pure q
end
section
variable {X : Cx} {CX : CXT} {k : Nat} {f C : Addr} {fd : FuncData} {ps : List Str} {sp : Sp} {E : XK}
/-- what runs behind bool(o) -/
def goB (prog : Program) (w : World) (K : PySem.W.Frag) (C a f : Addr) : PySem.Spec := fun A R s => K.In s.heap ∧ (∃ ox od, PySem.W.InstAt s.heap a ox C od) ∧
  wpAny (model prog w) A.in1.in1 (call (.ref f) [.ref a]) (fun v s' => ∃ (n : Nat) (t : Tok), v = .int (n : Int) t ∧ (n : Int) < 2 ^ 63 ∧ R (.ok (.ret (.bool ((n : Int) != 0)))) { s' with toks := s'.toks + 1 }) (fun e s' => R (.error e) s') s
theorem meets_boolL {prog : Program} {w : World} {K : PySem.W.Frag} {a : Addr} (hb : PySem.W.findIn K (.ref C) "__bool__" = some none) (hl : PySem.W.findIn K (.ref C) "__len__" = some (some (.ref f))) (hf : PySem.W.isFn K (.ref f) = true) :
    PySem.MeetsIn prog w (Builtin.«bool.__new__» ⟨[.type "bool", .ref a], []⟩) (goB prog w K C a f) :=
  .of_wp fun A R s hs => by
    obtain ⟨KI, ⟨ox, od, J⟩, hs⟩ := hs
    have f1 := F.conv_sub_bool
    have tr : ∀ {Q' : Bool → Shared → Prop}, wpAny (model prog w) A.in1.in1 (call (.ref f) [.ref a]) (fun v s' => ∃ (n : Nat) (t : Tok), v = .int (n : Int) t ∧ (n : Int) < 2 ^ 63 ∧ Q' ((n : Int) != 0) { s' with toks := s'.toks + 1 }) (fun e s' => R (.error e) s') s →
        wpAny (model prog w) A.in1 (truthy (.ref a)) Q' (fun e s' => R (.error e) s') s := fun z => truthy_len KI J hb hl hf z
    obtain ⟨hp, g, d, tk, os⟩ := s
    repeat (any_goals (first | assumption | (with_reducible refine tr (wpAny_mono hs (fun v s' hv => ?_) fun _ _ z => z)) | wp_step))
    all_goals first
      | (obtain ⟨n, t, rfl, hn, q⟩ := hv
         exact ⟨n, t, rfl, hn, wpAny_pure ⟨_, rfl, q⟩⟩)
      | (obtain ⟨n, t, rfl, hn, q⟩ := hv
         refine ⟨n, t, rfl, hn, ?_⟩
         repeat (first | exact ⟨_, rfl, q⟩ | exact q | wp_step))
      | skip
def rBoolO (C : Addr) (sp : Sp) (E : XK) : List V → Hp → VK → Prop := fun vs H Q => ∃ a dx fs, vs = [.ref a] ∧ H a = some (.ins C dx fs) ∧
  sp [.ref a] H (fun v H2 => ∃ n : Nat, v = .int (n : Int) ∧ (n : Int) < 2 ^ 63 ∧ Q (.bl ((n : Int) != 0)) H2) E
theorem call_boolN (F : FnOk X.prog X.w X.K X.mg X.base CX k f fd ps sp) (room : Room (k + 3) X.A) (nb : PySem.W.findIn X.K (.ref C) "__bool__" = some none)
    (own : PySem.W.findIn X.K (.ref C) "__len__" = some (some (.ref f))) (isf : PySem.W.isFn X.K (.ref f) = true)
    (b : L2.Binds X.K fd ps []) (pass : Passes CX X E) : CallR X (.type "bool") (rBoolO C sp E) := by
  intro pins s σ H xs us Q I r h
  obtain ⟨a, dx, fs, rfl, ha, hsp⟩ := h
  obtain rfl := Vals.ref1 r
  obtain ⟨mA, O, _, _, _, _⟩ := ins_get I.hok ha
  obtain ⟨od, J, _⟩ := O.look
  refine PySem.callType_newIn PySem.F.called_bool PySem.F.newNe_bool (PySem.F.typeCall_bool_1 _) (PySem.F.newCall_bool_1 _) (fun obj => PySem.F.args_object_init_2 obj _) PySem.F.entry_bool_new (meets_boolL (C := C) (f := f) nb own isf) ⟨I.kIn, ⟨_, _, J⟩, ?_⟩
  have hl := F.len _ _ _ _ hsp
  refine wpAny_call (codeAny_mono (F.run X.A.in1.in1.in1 X.stack s H ⟨[.ref a], []⟩ [.ref a] [.ref a] _ E room.in1.in1.in1 I.env0.in1.in1.in1 (by
    have := b s [.ref a] I.kIn (by simpa using hl)
    simpa using this) (.cons rfl .nil) hsp) fun r s' hq => ?_)
  cases r with
  | error e => exact pass pins σ H s e s' I hq
  | ok fl =>
    cases fl with
    | ret w =>
      obtain ⟨z, H', I', rz, n, ez, hn, hQ⟩ := I.after hq
      subst ez
      obtain ⟨t, rfl⟩ := rz
      exact ⟨n, t, rfl, hn, rfl, .bl _, H', I'.tok _, rfl, hQ⟩
    | next => exact False.elim hq
    | brk => exact False.elim hq
    | cont => exact False.elim hq
end
/-! ### tuples: mirrored, taken no times, joined -/
section
variable {prog : Program} {w : World} {A : Around} {E : Value → Shared → Prop} {s : Shared}
theorem slice_back {sl : Addr} {v : Value} {n : Nat} {Q : Int × Int × Nat → Shared → Prop} (hs : s.heap.IsSliceOf sl .none .none v) (pv : IsPart v (some (-1)))
    (h : Q ((n : Int) - 1, -1, n) s) : wpAny (model prog w) A (Builtin.Slice.sliceApplied (.ref sl) (pure (n : Int))) Q E s := by
  obtain ⟨o, ho, hc, hd⟩ := id hs
  unfold Builtin.Slice.sliceApplied Builtin.Slice.sliceFields
  refine wpAny_bind (wpAny_bind (wpAny_field ho hd (x := .none) rfl (wpAny_bind (wpAny_field ho hd (x := .none) rfl (wpAny_bind (wpAny_field ho hd (x := v) rfl (wpAny_pure ?_)))))))
  refine wpAny_bind (HT.slicePart_ pv ?_)
  show wpAny _ _ (if ((-1 : Int) == 0) = true then _ else _) _ _ s
  rw [if_neg (by decide)]
  refine wpAny_bind (HT.slicePart_ .none (wpAny_bind (HT.slicePart_ .none (wpAny_bind (wpAny_pure ?_)))))
  have e1 : Builtin.Slice.sliceAdjust none none (-1) (n : Int) = ((n : Int) - 1, -1) := by
    unfold Builtin.Slice.sliceAdjust
    simp
  have e2 : Builtin.Slice.slicePlaces ((n : Int) - 1) (-1) (-1) = n := by
    unfold Builtin.Slice.slicePlaces
    simp
    omega
  show wpAny _ _ (match Builtin.Slice.sliceAdjust none none (-1) (n : Int) with | (lo, hi) => pure (lo, (-1 : Int), Builtin.Slice.slicePlaces lo hi (-1))) _ _ s
  rw [e1]
  show wpAny _ _ (pure ((n : Int) - 1, (-1 : Int), Builtin.Slice.slicePlaces ((n : Int) - 1) (-1) (-1))) _ _ s
  rw [e2]
  exact wpAny_pure h
theorem pick_back (xs : Array Value) : ((List.range xs.size).filterMap fun (m : Nat) => xs[((xs.size : Int) - 1 + (m : Int) * (-1)).toNat]?).toArray = xs.toList.reverse.toArray := by
  congr 1
  have e : (List.range xs.size).filterMap (fun (m : Nat) => xs[((xs.size : Int) - 1 + (m : Int) * (-1)).toNat]?) = ((List.range xs.size).map fun m => xs.size - 1 - m).filterMap (xs[·]?) := by
    rw [List.filterMap_map]
    refine congrArg (fun f => (List.range xs.size).filterMap f) (funext fun m => ?_)
    show xs[_]? = xs[xs.size - 1 - m]?
    by_cases c : m < xs.size
    · rw [show ((xs.size : Int) - 1 + (m : Int) * (-1)).toNat = xs.size - 1 - m by omega]
    · rw [show ((xs.size : Int) - 1 + (m : Int) * (-1)).toNat = xs.size - 1 - m by omega]
  rw [e, PySem.W.krv_range, List.filterMap_reverse, PySem.W.krv_all]
theorem getItem_tup_back {t sl : Addr} {items : Array Value} {v : Value} {Q : Value → Shared → Prop} (ht : IsTup s.heap t items) (hs : s.heap.IsSliceOf sl .none .none v) (pv : IsPart v (some (-1)))
    (h : Q (.ref s.heap.objs.size) { s with heap := s.heap.push { cls := .type "tuple", data := .seq items.toList.reverse.toArray } })
    (hsz : items.size ≤ sizeLine) : wpAny (model prog w) A (getItem (.ref t) (.ref sl)) Q E s := by
  have hz : sizeOk (.seq items.toList.reverse.toArray) := by
    show items.toList.reverse.toArray.size ≤ sizeLine
    rw [List.size_toArray, List.length_reverse, Array.length_toList]
    exact hsz
  obtain ⟨o, ho, hc, hd⟩ := id hs
  have ts : s.TypeIs (.ref sl) "slice" := ⟨o, ho, hc⟩
  unfold getItem
  try with_reducible refine wpAny_holding ?_
  first | refine wpAny_bind (wpAny_pure ?_) | skip
  refine wpAny_bind (wpAny_sequenceKey ht.typeIs (by decide) ?_)
  refine wpAny_bind (wpAny_callSpecial?_slot (name := Str.ofString "__getitem__") ht.typeIs PyProof.Rows.slot_tuple_getitem
    (wpAny_call_entry PyProof.Rows.slot_tuple_getitem ht.typeIs PyProof.Rows.entry_tuple_getitem ?_ (PyProof.Rows.args_tuple_getitem _ _)))
  show wpAny _ _ (Builtin.Tuple.tupleItemsOf (.ref t) >>= _) _ _ s
  refine wpAny_bind (PyProof.Rows.tupleItemsOf_ ht ?_)
  refine wpAny_bind (wpAny_typeOf ts ?_)
  rw [if_pos (by decide)]
  refine wpAny_bind (slice_back hs pv ?_)
  have no : ¬ ((((items.size : Int) - 1) == 0 && (-1 : Int) == 1 && items.size == items.size) = true) := by simp
  show wpAny _ _ (if ((((items.size : Int) - 1) == 0 && (-1 : Int) == 1 && items.size == items.size) = true) then _ else _) _ _ s
  rw [if_neg no, pick_back]
  first
    | exact wpAny_bind (m := Builtin.Tuple.tupleExact _) (wpAny_newObj_type (wpAny_pure ⟨_, rfl, wpAny_pure h⟩) hz)
    | exact wpAny_bind (m := Builtin.Tuple.tupleExact _) (wpAny_newObj_type (wpAny_bind (wpAny_pure (wpAny_pure ⟨_, rfl, wpAny_pure h⟩))) hz)
    | exact wpAny_bind (wpAny_bind (m := Builtin.Tuple.tupleExact _) (wpAny_newObj_type (wpAny_pure (wpAny_pure ⟨_, rfl, wpAny_pure h⟩)) hz))
    | exact wpAny_bind (wpAny_bind (m := Builtin.Tuple.tupleExact _) (wpAny_newObj_type (wpAny_pure ⟨_, rfl, wpAny_pure h⟩) hz))
theorem tup_mul0 (l : Addr) (items : Array Value) (n : Nat) (dd : Option Addr) (sl : Array (Option Value)) (u : Tok) (hi : items.isEmpty = false) :
    Meets (Builtin.«tuple.__mul__» ⟨[.ref l, .int 0 u], []⟩) (fun _ R s => s.heap.get? l = some { cls := .type "tuple", dict := dd, data := .seq items n, slots := sl } ∧
      R (.ok (.ret (Value.ref s.heap.objs.size))) { s with heap := s.heap.push { cls := Value.type "tuple", data := Data.seq #[] }, toks := s.toks }) :=
  .of_wp fun prog w A R s h => by
    obtain ⟨hp, g, d, tk, os⟩ := s
    obtain ⟨hl, h⟩ := h
    have f1 := AutoSeq1.idx_int
    have c1 : (items.isEmpty || (0 : Int) == 1) = false := by rw [hi]; rfl
    have c2 : (decide ((0 : Int) ≤ 0) || items.isEmpty) = true := by rw [decide_eq_true (Int.le_refl 0)]; rfl
    wp_walk using wpAny_loadPart' hl
    repeat (first
      | (refine wpAny_ite_false (decide_eq_false (by rw [c1]; exact Bool.false_ne_true)) ?_; wp_walk using wpAny_loadPart' hl)
      | (refine wpAny_ite_true (decide_eq_true c2) ?_; wp_walk using wpAny_loadPart' hl)
      | (refine wpAny_ite_true c2 ?_; wp_walk using wpAny_loadPart' hl))
    exact ⟨_, rfl, h⟩
end
section
variable {X : Cx}
def tRevT (K : PySem.W.Frag) (te : TE) : TE := fun σ H Q => te σ H fun x H1 => ∃ a xs, x = .ref a ∧ SqT K H1 a xs ∧ ∀ p, H1 p = none → Q (.ref p) (upd H1 p (.tup xs.reverse))
theorem pe_revT {e : Expr} {te : TE} {k : Nat} {p1 p2 p3 pos : Pos} (he : PE X e te) : PE X (.Subscript e (.Slice none none (some (.UnaryOp .USub (.Constant (.int 1) k p1) p2)) p3) pos) (tRevT X.K te) := by
  constructor
  intro pins s σ H Q I h
  refine Subscript_ (thn (he.run pins s σ H _ I h) ?_)
  rintro v s1 ⟨x, H1, I1, rx, a, xs, rfl, hx, q⟩
  cases rx
  have step : PO X (some (.UnaryOp .USub (.Constant (.int 1) k p1) p2)) (tPart (tUn (rU fun i => .int (-i)) (tC (.int 1)))) := po_some (pe_un un_neg pe_int)
  refine wpAny_Slice (thn (po_none.run pins s1 σ H1 (fun o H2 => o = none ∧ H2 = H1) I1 ⟨rfl, rfl⟩) ?_)
  rintro vl s2 ⟨l, H2, I2, pl, rfl, rfl⟩
  refine thn (po_none.run pins s2 σ H2 (fun o H3 => o = none ∧ H3 = H2) I2 ⟨rfl, rfl⟩) ?_
  rintro vu s3 ⟨u, H3, I3, pu, rfl, rfl⟩
  refine thn (step.run pins s3 σ H3 (fun o H4 => o = some (-1) ∧ H4 = H3) I3 ⟨1, rfl, -1, rfl, rfl, rfl⟩) ?_
  rintro vs s4 ⟨o, H4, I4, pz, rfl, rfl⟩
  obtain rfl : vl = .none := by cases pl; rfl
  obtain rfl : vu = .none := by cases pu; rfl
  have I5 : Inv X pins σ H4 { s4 with heap := s4.heap.push { cls := .type "slice", data := .fields #[.none, .none, vs] } } := I4.kept (t' := s4.toks) fun b ob q => Heap.get?_push_of_some _ q
  obtain ⟨its, rv, ht, hz⟩ := I5.tuple hx
  have hlen := rv.length
  show wpAny (model X.prog X.w) X.A (subscriptTail e (.Slice none none (some (.UnaryOp .USub (.Constant (.int 1) k p1) p2)) p3) (.ref a) (.ref s4.heap.objs.size)) (EP X pins σ Q) X.xe { s4 with heap := s4.heap.push { cls := .type "slice", data := .fields #[.none, .none, vs] } }
  refine tail_any (ops := [.ref a, .ref s4.heap.objs.size]) ht.typeIs (PyProof.Rows.slot_tuple_getitem.lookup) ?_ (by with_unfolding_all rfl)
  refine getItem_tup_back ht (Heap.IsSliceOf.new _ .none .none vs) pz ?_ (by rw [List.size_toArray]; omega)
  refine ⟨.ref _, _, I5.laid (t' := s4.toks) (o := .tup xs.reverse) (fun b ob q => Heap.get?_push_of_some _ q) (Nat.le_refl _) ?_, rfl, q _ (I5.hok.fresh (Nat.le_refl _))⟩
  exact ⟨by rw [List.length_reverse]; exact hz, _, rv.reverse, IsTup.new _ _⟩
def rRepTZ (K : PySem.W.Frag) : R2 := fun x y H Q => ∃ l k xs, x = .ref l ∧ y = .int k ∧ SqT K H l xs ∧ xs ≠ [] ∧ 0 ≤ k ∧ k ≤ 1000 ∧ xs.length ≤ 1000 ∧ ∀ p H', Same H H' → SqT K H' p (List.replicate k.toNat xs).flatten → Q (.ref p) H'
theorem op_repTZ {K : PySem.W.Frag} (h : X.K = K := by rfl) : OpR X (binaryOp .Mult) (rRepTZ K) := by
  subst h
  intro pins s σ H x y v u Q I rx ry h
  obtain ⟨l, k, xs, rfl, rfl, hT, hne, h1, h2, hz, q⟩ := h
  by_cases c : k = 0
  · subst c
    cases rx
    obtain ⟨t, rfl⟩ := ry
    obtain ⟨its, r, ⟨⟨cls, dd, data, sl⟩, ho, hc, n, hd⟩, hs⟩ := I.tuple hT
    simp only at hc hd
    subst hc hd
    have hi : its.toArray.isEmpty = false := by
      cases r with
      | nil => exact absurd rfl hne
      | cons a b => rfl
    refine wpAny_binaryOp_repeat_ref (T := "tuple") (U := "int") (by decide) ⟨_, ho, rfl⟩ (fun s' => typeIs_int s' 0 t) noFill_tuple_mul PySem.F.fills_int_mul PySem.F.slot_int_rmul repeat_tuple PySem.F.slot_int_index.lookup
      (call_meets PySem.F.slot_int_rmul (typeIs_int s 0 t) PySem.F.entry_int_rmul (PySem.F.args_int_rmul_2 _ _) (int_rmul_tuple 0 t l its.toArray n dd sl)
        ⟨ho, rfl, ⟨_, ho, rfl⟩, call_meets PySem.F.slot_tuple_mul ⟨_, ho, rfl⟩ PySem.F.entry_tuple_mul (PySem.F.args_tuple_mul_2 _ _) (tup_mul0 l its.toArray n dd sl t hi) ⟨ho, ?_⟩⟩)
    have hn := I.hok.fresh (Nat.le_refl _)
    refine ⟨.ref _, _, I.laid (t' := s.toks) (o := .tup []) (fun b ob q => Heap.get?_push_of_some _ q) (Nat.le_refl _) ⟨Nat.zero_le _, [], .nil, IsTup.new _ _⟩, rfl, q _ _ (fun b o e => by rw [upd_ne (ne_of_none e hn)]; exact e) (.inl (.inl upd_same))⟩
  · exact op_repTO rfl pins s σ H _ _ v u Q I rx ry ⟨l, k, xs, rfl, rfl, hT, hne, by omega, h2, hz, q⟩
theorem tup_add0 (l b : Addr) (items items2 : Array Value) (n n2 : Nat) (dd dd2 : Option Addr) (sl sl2 : Array (Option Value)) (h0 : items.isEmpty = true) :
    Meets (Builtin.«tuple.__add__» ⟨[.ref l, .ref b], []⟩) (fun _ R s => s.heap.get? l = some { cls := .type "tuple", dict := dd, data := .seq items n, slots := sl } ∧ s.heap.get? b = some { cls := .type "tuple", dict := dd2, data := .seq items2 n2, slots := sl2 } ∧ R (.ok (.ret (Value.ref b))) s) :=
  .of_wp fun prog w A R s h => by
    obtain ⟨hp, g, d, tk, os⟩ := s
    obtain ⟨hl, hb, h⟩ := h
    have f1 := AutoSeq1.idx_int
    have f2 := AutoSeq1.sub_tuple_tuple
    wp_walk using AutoSeq1.wpAny_loadPart' hl, AutoSeq1.wpAny_loadPart' hb
    exact ⟨_, rfl, h⟩
/-- t + u, either one may be empty -/
def rCatZ (K : PySem.W.Frag) : R2 := fun x y H Q => ∃ a b xs ys, x = .ref a ∧ y = .ref b ∧ SqT K H a xs ∧ SqT K H b ys ∧ xs.length + ys.length ≤ sizeLine ∧ ∀ p H', Same H H' → SqT K H' p (xs ++ ys) → Q (.ref p) H'
theorem op_catZ {K : PySem.W.Frag} (h : X.K = K := by rfl) : OpR X (binaryOp .Add) (rCatZ K) := by
  subst h
  intro pins s σ H x y v u Q I rx ry h
  obtain ⟨a, b, xs, ys, rfl, rfl, ha, hb, hz, q⟩ := h
  by_cases hx : xs = []
  · subst hx
    cases rx
    cases ry
    obtain ⟨its, r1, p1, _⟩ := I.tuple ha
    obtain ⟨its2, r2, p2, _⟩ := I.tuple hb
    cases r1
    obtain ⟨⟨cls, dd, data, sl⟩, ho, hc, n, hd⟩ := id p1
    obtain ⟨⟨cls2, dd2, data2, sl2⟩, ho2, hc2, n2, hd2⟩ := id p2
    simp only at hc hd hc2 hd2
    subst hc hd hc2 hd2
    refine concat_meets ⟨_, ho, rfl⟩ ⟨_, ho2, rfl⟩ noFill_tuple_add seq_tuple_add PySem.F.slot_tuple_add PySem.F.entry_tuple_add (PySem.F.args_tuple_add_2 _ _) (tup_add0 a b _ its2.toArray n n2 dd dd2 sl sl2 rfl) ⟨ho, ho2, ?_⟩
    exact ⟨.ref b, H, I, rfl, q b H (fun _ _ e => e) hb⟩
  · refine op_catT pins s σ H _ _ v u Q I rx ry ⟨a, b, xs, ys, rfl, rfl, ha, hb, hx, hz, fun hy => ?_, fun hy p hp => ?_⟩
    · subst hy
      exact q a H (fun _ _ e => e) (by rw [List.append_nil]; exact ha)
    · exact q p _ (fun c o e => by rw [upd_ne (ne_of_none e hp)]; exact e) (.inl (.inl upd_same))
end
end Rw

set_option linter.all false
set_option maxRecDepth 100000
namespace K6
open PySem
/-! ### data of any kind: what the law asks of it, without the program -/
def tyS : PyData → String
  | .none => "NoneType" | .bool _ => "bool" | .int _ => "int" | .str _ => "str" | .list _ => "list" | .tuple _ => "tuple" | .dict _ => "dict"
def isTu : PyData → Bool
  | .tuple _ => true
  | _ => false
def isI : PyData → Bool
  | .int _ => true
  | _ => false
def elsD : PyData → List PyData
  | .tuple ds => ds
  | _ => []
def intD : PyData → Int
  | .int i => i
  | _ => 0
def btwD (lo hi : Int) : PyData → Bool
  | .int i => decide (lo ≤ i) && decide (i ≤ hi)
  | _ => false
def goalD (n : Int) : PyData → Bool
  | .none => true
  | d => btwD 0 (n - 1) d
def goalsD (w n : Int) (d : PyData) : Bool := isTu d && (decide (((elsD d).length : Int) = w) && (elsD d).all (goalD n))
def arrowsD (w : Int) (d : PyData) : Bool := isTu d && (decide (1 ≤ (elsD d).length) && decide ((elsD d).length ≤ 200) && (elsD d).all (goalsD w (elsD d).length))
def ascB (ns : List Int) : Bool := (List.range (ns.length - 1)).all fun i => decide (ns.getD i 0 < ns.getD (i + 1) 0)
def standsD (n : Int) (d : PyData) : Bool := isTu d && ((elsD d).all (btwD 0 (n - 1)) && ascB ((elsD d).map intD))
/-- which error is due -/
def dueD (d1 d2 d3 : PyData) : Nat := if btwD 1 8 d1 = true then if arrowsD (intD d1) d2 = true then if standsD (elsD d2).length d3 = true then 3 else 2 else 1 else 0
/-! ### what may be drawn -/
def okStr (z : Str) : Bool := z == "" || z == "a" || z == "b" || z == "i" || z == "ab" || z == "A" || z == "a b"
mutual
def okD (B : Nat) : PyData → Bool
  | .none | .bool _ => true
  | .int i => decide (i.natAbs ≤ B)
  | .str z => okStr z
  | .list ds | .tuple ds => okAll B ds
  | .dict kvs => kvs.all fun p => match p with | (.str k, .int i) => okStr k && decide (i = 0) | _ => false
def okAll (B : Nat) : List PyData → Bool
  | [] => true
  | d :: ds => okD B d && okAll B ds
end
mutual
def wt : PyData → Nat
  | .none => 6 | .bool _ => 7 | .int _ => 60 | .str _ => 12
  | .list ds | .tuple ds => 5 + wtAll ds
  | .dict kvs => 5 + 30 * kvs.length
def wtAll : List PyData → Nat
  | [] => 0
  | d :: ds => wt d + 2 + wtAll ds
end
theorem okAll_iff {B : Nat} : ∀ {ds : List PyData}, okAll B ds = true ↔ ∀ d ∈ ds, okD B d = true
  | [] => by simp [okAll]
  | d :: ds => by
    simp only [okAll, Bool.and_eq_true, List.forall_mem_cons]
    rw [okAll_iff]
theorem wtAll_app : ∀ (as bs : List PyData), wtAll (as ++ bs) = wtAll as + wtAll bs
  | [], bs => by simp [wtAll]
  | a :: as, bs => by
    rw [List.cons_append]
    simp only [wtAll]
    rw [wtAll_app as bs]
    omega
theorem wt_len : ∀ (ds : List PyData), 2 * ds.length ≤ wtAll ds
  | [] => Nat.zero_le _
  | d :: ds => by
    have := wt_len ds
    simp only [wtAll, List.length_cons]
    omega
theorem wt_mem {d : PyData} : ∀ {ds : List PyData}, d ∈ ds → wt d ≤ wtAll ds
  | e :: ds, h => by
    simp only [wtAll]
    rcases List.mem_cons.mp h with rfl | h
    · omega
    · have := wt_mem h
      omega
theorem wtAll_rev : ∀ (ds : List PyData), wtAll ds.reverse = wtAll ds
  | [] => rfl
  | d :: ds => by
    rw [List.reverse_cons, wtAll_app, wtAll_rev ds]
    simp only [wtAll]
    omega
def OkS (z : Str) : Prop := ∀ c ∈ z.cps.toList, c < 0x110000
theorem okS_lay {z : Str} (h : OkS z) : PyData.canLay0 (.str z) = true := by
  show PyData.strOk z = true
  unfold PyData.strOk
  rw [← Array.all_toList]
  exact List.all_eq_true.mpr fun c hc => decide_eq_true (h c hc)
theorem okS_app {a b : Str} (ha : OkS a) (hb : OkS b) : OkS (a ++ b) := by
  intro c hc
  have hc : c ∈ (a.cps ++ b.cps).toList := hc
  rw [Array.toList_append] at hc
  exact (List.mem_append.mp hc).elim (ha c) (hb c)
theorem okS_of (s : String) : OkS (Str.ofString s) := by
  intro c hc
  rw [Str.ofString_eq_byList] at hc
  unfold Str.ofStringByList at hc
  rw [List.toList_toArray] at hc
  obtain ⟨ch, _, rfl⟩ := List.mem_map.mp hc
  have h := ch.valid
  simp only [UInt32.isValidChar, Nat.isValidChar] at h
  show ch.val.toNat < _
  omega
theorem okS_join (sep : Str) (hs : OkS sep) : ∀ ts : List Str, (∀ t ∈ ts, OkS t) → OkS (Str.join sep ts)
  | [], _ => by intro c hc; cases hc
  | [x], h => h x (by simp)
  | x :: y :: r, h => okS_app (okS_app (h x (by simp)) hs) (okS_join sep hs (y :: r) fun t ht => h t (List.mem_cons_of_mem _ ht))
theorem okS_from : ∀ (ts : List Str) (k : Nat) (acc : Str), OkS acc → (∀ t ∈ ts, OkS t) → OkS (textFrom k acc ts)
  | [], _, acc, h, _ => h
  | t :: r, k, acc, h, hr => okS_from r (k + 1) _ (okS_app (okS_app h (okS_of _)) (hr t (by simp))) fun u hu => hr u (List.mem_cons_of_mem _ hu)
theorem okStr_cases {z : Str} (h : okStr z = true) : z = "" ∨ z = "a" ∨ z = "b" ∨ z = "i" ∨ z = "ab" ∨ z = "A" ∨ z = "a b" := by
  unfold okStr at h
  simp only [Bool.or_eq_true, beq_iff_eq] at h
  rcases h with (((((h | h) | h) | h) | h) | h) | h
  · exact .inl h
  · exact .inr (.inl h)
  · exact .inr (.inr (.inl h))
  · exact .inr (.inr (.inr (.inl h)))
  · exact .inr (.inr (.inr (.inr (.inl h))))
  · exact .inr (.inr (.inr (.inr (.inr (.inl h)))))
  · exact .inr (.inr (.inr (.inr (.inr (.inr h)))))
theorem okStr_shown {z : Str} (h : okStr z = true) : OkS (reprText z) ∧ (reprText z).length ≤ 12 := by
  have key : ∀ c : Str, ((reprText c).cps.toList.all fun c => decide (c < 0x110000)) = true ∧ (reprText c).length ≤ 12 → OkS (reprText c) ∧ (reprText c).length ≤ 12 := fun c hc =>
    ⟨fun x hx => of_decide_eq_true (List.all_eq_true.mp hc.1 x hx), hc.2⟩
  rcases okStr_cases h with rfl | rfl | rfl | rfl | rfl | rfl | rfl <;> exact key _ (by decide +kernel)
theorem int_len {i : Int} (h : i.natAbs < 10 ^ 46) : ((toString i : String) : Str).length ≤ 47 := by
  have e := int_text_length_le10 (k := 46) (by decide) h
  show (Str.ofString (toString i)).length ≤ 47
  rw [ofString_length]
  exact e
theorem listText_len (ts : List Str) : (listText ts).length ≤ 4 + piled ts := by
  unfold listText
  rw [strLen_append]
  have e3 : ("]" : Str).length = 1 := rfl
  rw [e3]
  cases ts with
  | nil => show ("[" : Str).length + 1 ≤ _; decide
  | cons t r =>
    have h := textFrom_length_pos r 1 (("[" : Str) ++ (if (0 : Nat) > 0 then ", " else "" : String) ++ t) (Nat.succ_pos 0)
    have e : ((("[" : Str) ++ (if (0 : Nat) > 0 then ", " else "" : String) ++ t)).length = 1 + t.length := by
      rw [strLen_append, strLen_append]; rfl
    show (textFrom 1 (("[" : Str) ++ (if (0 : Nat) > 0 then ", " else "" : String) ++ t) r).length + 1 ≤ _
    rw [h, e, piled_cons]
    omega
theorem join_len (ts : List Str) : (Str.join ", " ts).length ≤ piled ts := by
  by_cases c : ts = []
  · subst c; exact Nat.zero_le _
  · have := join_length_add ts c
    omega
theorem tupText_len (ts : List Str) : (tupleText ts).length ≤ 4 + piled ts := by
  unfold tupleText
  rw [strLen_append, strLen_append]
  have e1 : ((("(" : String) : Str)).length = 1 := rfl
  have e3 : (((if ts.length == 1 then ",)" else ")" : String) : Str)).length ≤ 2 := by split <;> decide
  have := join_len ts
  omega
theorem dictText_len (ts : List Str) : (dictText ts).length ≤ 4 + piled ts := by
  unfold dictText
  rw [strLen_append, strLen_append]
  have e1 : ((("{" : String) : Str)).length = 1 := rfl
  have e3 : ((("}" : String) : Str)).length = 1 := rfl
  have := join_len ts
  omega
def kvOk (p : PyData × PyData) : Bool := match p with
  | (.str k, .int i) => okStr k && decide (i = 0)
  | _ => false
theorem okD_dict (B : Nat) (kvs : List (PyData × PyData)) : okD B (.dict kvs) = kvs.all kvOk := by simp only [okD]; rfl
theorem kvOk_cases {p : PyData × PyData} (h : kvOk p = true) : ∃ k, p = (.str k, .int 0) ∧ okStr k = true := by
  obtain ⟨a, b⟩ := p
  unfold kvOk at h
  cases a <;> cases b <;> first | exact Bool.noConfusion h | skip
  rename_i k i
  simp only [Bool.and_eq_true, decide_eq_true_eq] at h
  exact ⟨k, by rw [h.2], h.1⟩
theorem kv_all : ∀ (kvs : List (PyData × PyData)), kvs.all kvOk = true → (∀ t ∈ PyData.shownKv kvs, OkS t) ∧ piled (PyData.shownKv kvs) ≤ 30 * kvs.length ∧ PyData.showableKv kvs = true ∧ PyData.depthKv kvs = 0
  | [], _ => ⟨by simp [PyData.shownKv], by simp [PyData.shownKv, piled], rfl, rfl⟩
  | p :: kvs, h => by
    rw [List.all_cons, Bool.and_eq_true] at h
    obtain ⟨h1, h2, h3, h4⟩ := kv_all kvs h.2
    obtain ⟨k, rfl, hk⟩ := kvOk_cases h.1
    have a := okStr_shown hk
    simp only [PyData.shownKv, PyData.shown, PyData.showableKv, PyData.showable, PyData.depthKv, PyData.depth]
    refine ⟨fun t ht => ?_, ?_, ?_, ?_⟩
    · rcases List.mem_cons.mp ht with rfl | ht
      · exact okS_app (okS_app a.1 (okS_of _)) (okS_of _)
      · exact h1 t ht
    · rw [piled_cons, strLen_append, strLen_append, List.length_cons]
      have e1 : ((": " : String) : Str).length = 2 := rfl
      have e2 : ((toString (0 : Int) : String) : Str).length = 1 := by decide +kernel
      rw [e1, e2]
      have := a.2
      omega
    · rw [h3]
      decide
    · rw [h4]
      rfl
mutual
theorem okD_mono {B B' : Nat} (hb : B ≤ B') : ∀ d : PyData, okD B d = true → okD B' d = true
  | .none, _ => rfl
  | .bool b, _ => rfl
  | .int i, h => by
    simp only [okD, decide_eq_true_eq] at h ⊢
    omega
  | .str z, h => by simpa only [okD] using h
  | .list ds, h => by
    simp only [okD] at h ⊢
    exact okAll_mono hb ds h
  | .tuple ds, h => by
    simp only [okD] at h ⊢
    exact okAll_mono hb ds h
  | .dict kvs, h => by simpa only [okD] using h
theorem okAll_mono {B B' : Nat} (hb : B ≤ B') : ∀ ds : List PyData, okAll B ds = true → okAll B' ds = true
  | [], _ => rfl
  | d :: ds, h => by
    simp only [okAll, Bool.and_eq_true] at h ⊢
    exact ⟨okD_mono hb d h.1, okAll_mono hb ds h.2⟩
end
mutual
theorem ok_shown {B : Nat} (hB : B < 10 ^ 46) : ∀ d : PyData, okD B d = true → OkS d.shown ∧ d.shown.length ≤ wt d ∧ d.showable = true
  | .none, _ => ⟨okS_of _, by simp only [PyData.shown, wt]; decide, rfl⟩
  | .bool b, _ => ⟨by simp only [PyData.shown]; cases b <;> exact okS_of _, by simp only [PyData.shown, wt]; cases b <;> decide, rfl⟩
  | .int i, h => by
    have h : i.natAbs < 10 ^ 46 := by
      simp only [okD, decide_eq_true_eq] at h
      omega
    refine ⟨by simp only [PyData.shown]; exact okS_of _, ?_, ?_⟩
    · have := int_len h
      simp only [PyData.shown, wt]
      omega
    · simp only [PyData.showable, decide_eq_true_eq]
      by_cases c : i.natAbs = 0
      · rw [c]; decide
      · exact (Nat.log2_lt c).mpr (Nat.lt_of_lt_of_le h (by decide +kernel))
  | .str z, h => by
    have a := okStr_shown (z := z) (by simpa only [okD] using h)
    exact ⟨by simp only [PyData.shown]; exact a.1, by simp only [PyData.shown, wt]; exact a.2, rfl⟩
  | .list ds, h => by
    obtain ⟨h1, h2, h3⟩ := ok_shownAll hB ds (by simpa only [okD] using h)
    refine ⟨?_, ?_, by simpa only [PyData.showable] using h3⟩
    · simp only [PyData.shown]
      unfold listText
      exact okS_app (okS_from _ _ _ (okS_of _) h1) (okS_of _)
    · have := listText_len (PyData.shownAll ds)
      simp only [PyData.shown, wt]
      omega
  | .tuple ds, h => by
    obtain ⟨h1, h2, h3⟩ := ok_shownAll hB ds (by simpa only [okD] using h)
    refine ⟨?_, ?_, by simpa only [PyData.showable] using h3⟩
    · simp only [PyData.shown]
      unfold tupleText
      exact okS_app (okS_app (okS_of _) (okS_join _ (okS_of _) _ h1)) (okS_of _)
    · have := tupText_len (PyData.shownAll ds)
      simp only [PyData.shown, wt]
      omega
  | .dict kvs, h => by
    rw [okD_dict] at h
    obtain ⟨h1, h2, h3, _⟩ := kv_all kvs h
    refine ⟨?_, ?_, by simpa only [PyData.showable] using h3⟩
    · simp only [PyData.shown]
      unfold dictText
      exact okS_app (okS_app (okS_of _) (okS_join _ (okS_of _) _ h1)) (okS_of _)
    · have := dictText_len (PyData.shownKv kvs)
      simp only [PyData.shown, wt]
      omega
theorem ok_shownAll {B : Nat} (hB : B < 10 ^ 46) : ∀ ds : List PyData, okAll B ds = true → (∀ t ∈ PyData.shownAll ds, OkS t) ∧ piled (PyData.shownAll ds) ≤ wtAll ds ∧ PyData.showableAll ds = true
  | [], _ => ⟨by simp [PyData.shownAll], by simp [PyData.shownAll, piled], rfl⟩
  | d :: ds, h => by
    simp only [okAll, Bool.and_eq_true] at h
    obtain ⟨a1, a2, a3⟩ := ok_shown hB d h.1
    obtain ⟨b1, b2, b3⟩ := ok_shownAll hB ds h.2
    simp only [PyData.shownAll, PyData.showableAll, wtAll]
    refine ⟨fun t ht => ?_, ?_, by rw [a3, b3]; rfl⟩
    · rcases List.mem_cons.mp ht with rfl | ht
      · exact a1
      · exact b1 t ht
    · rw [piled_cons]
      omega
end
end K6

set_option Elab.async false
set_option linter.all false
set_option maxRecDepth 100000
set_option maxHeartbeats 4000000
namespace K6
open PySem PySem.Spec PyProof.Rows L2 Rw
/-! ### the text by places, the names of each def -/
def topS (i : Nat) : Stmt := PySem.Challenge.pw_rowreaders_k02_whole_readers_made_and_re.main.body.getD i (.Pass ⟨0, 0, 0, 0⟩)
abbrev s_is_integer : Stmt := topS 9
abbrev n_is_integer : List Str := ["value"]
abbrev p_is_integer : List Str := ["value"]
theorem sc_is_integer : FnScope n_is_integer p_is_integer (defScope s_is_integer) := ⟨rfl, rfl, rfl, by decide +kernel, rfl, by decide +kernel, by decide +kernel⟩
abbrev s_is_between : Stmt := topS 10
abbrev n_is_between : List Str := ["value", "low", "high"]
abbrev p_is_between : List Str := ["value", "low", "high"]
theorem sc_is_between : FnScope n_is_between p_is_between (defScope s_is_between) := ⟨rfl, rfl, rfl, by decide +kernel, rfl, by decide +kernel, by decide +kernel⟩
abbrev s_is_ascending : Stmt := topS 11
abbrev n_is_ascending : List Str := ["values", "at"]
abbrev p_is_ascending : List Str := ["values"]
theorem sc_is_ascending : FnScope n_is_ascending p_is_ascending (defScope s_is_ascending) := ⟨rfl, rfl, rfl, by decide +kernel, rfl, by decide +kernel, by decide +kernel⟩
abbrev s_is_stands : Stmt := topS 12
abbrev n_is_stands : List Str := ["value", "size", "stand"]
abbrev p_is_stands : List Str := ["value", "size"]
theorem sc_is_stands : FnScope n_is_stands p_is_stands (defScope s_is_stands) := ⟨rfl, rfl, rfl, by decide +kernel, rfl, by decide +kernel, by decide +kernel⟩
abbrev s_is_arrows : Stmt := topS 13
abbrev n_is_arrows : List Str := ["value", "signs", "goals"]
abbrev p_is_arrows : List Str := ["value", "signs"]
theorem sc_is_arrows : FnScope n_is_arrows p_is_arrows (defScope s_is_arrows) := ⟨rfl, rfl, rfl, by decide +kernel, rfl, by decide +kernel, by decide +kernel⟩
abbrev s_is_goals : Stmt := topS 14
abbrev n_is_goals : List Str := ["value", "signs", "size", "goal"]
abbrev p_is_goals : List Str := ["value", "signs", "size"]
theorem sc_is_goals : FnScope n_is_goals p_is_goals (defScope s_is_goals) := ⟨rfl, rfl, rfl, by decide +kernel, rfl, by decide +kernel, by decide +kernel⟩
abbrev s_check_signs : Stmt := topS 15
abbrev n_check_signs : List Str := ["signs"]
abbrev p_check_signs : List Str := ["signs"]
theorem sc_check_signs : FnScope n_check_signs p_check_signs (defScope s_check_signs) := ⟨rfl, rfl, rfl, by decide +kernel, rfl, by decide +kernel, by decide +kernel⟩
abbrev s_Reader_init : Stmt := inClass (topS 17) 0
abbrev n_Reader_init : List Str := ["self", "signs", "arrows", "ends"]
abbrev p_Reader_init : List Str := ["self", "signs", "arrows", "ends"]
theorem sc_Reader_init : FnScope n_Reader_init p_Reader_init (defScope s_Reader_init) := ⟨rfl, rfl, rfl, by decide +kernel, rfl, by decide +kernel, by decide +kernel⟩
abbrev s_Reader_signs : Stmt := inClass (topS 17) 1
abbrev n_Reader_signs : List Str := ["self"]
abbrev p_Reader_signs : List Str := ["self"]
theorem sc_Reader_signs : FnScope n_Reader_signs p_Reader_signs (defScope s_Reader_signs) := ⟨rfl, rfl, rfl, by decide +kernel, rfl, by decide +kernel, by decide +kernel⟩
abbrev s_Reader_arrows : Stmt := inClass (topS 17) 2
abbrev n_Reader_arrows : List Str := ["self"]
abbrev p_Reader_arrows : List Str := ["self"]
theorem sc_Reader_arrows : FnScope n_Reader_arrows p_Reader_arrows (defScope s_Reader_arrows) := ⟨rfl, rfl, rfl, by decide +kernel, rfl, by decide +kernel, by decide +kernel⟩
abbrev s_Reader_ends : Stmt := inClass (topS 17) 3
abbrev n_Reader_ends : List Str := ["self"]
abbrev p_Reader_ends : List Str := ["self"]
theorem sc_Reader_ends : FnScope n_Reader_ends p_Reader_ends (defScope s_Reader_ends) := ⟨rfl, rfl, rfl, by decide +kernel, rfl, by decide +kernel, by decide +kernel⟩
abbrev s_Reader_len : Stmt := inClass (topS 17) 4
abbrev n_Reader_len : List Str := ["self"]
abbrev p_Reader_len : List Str := ["self"]
theorem sc_Reader_len : FnScope n_Reader_len p_Reader_len (defScope s_Reader_len) := ⟨rfl, rfl, rfl, by decide +kernel, rfl, by decide +kernel, by decide +kernel⟩
abbrev s_Reader_repr : Stmt := inClass (topS 17) 5
abbrev n_Reader_repr : List Str := ["self"]
abbrev p_Reader_repr : List Str := ["self"]
theorem sc_Reader_repr : FnScope n_Reader_repr p_Reader_repr (defScope s_Reader_repr) := ⟨rfl, rfl, rfl, by decide +kernel, rfl, by decide +kernel, by decide +kernel⟩
abbrev s_Reader_eq : Stmt := inClass (topS 17) 6
abbrev n_Reader_eq : List Str := ["self", "other"]
abbrev p_Reader_eq : List Str := ["self", "other"]
theorem sc_Reader_eq : FnScope n_Reader_eq p_Reader_eq (defScope s_Reader_eq) := ⟨rfl, rfl, rfl, by decide +kernel, rfl, by decide +kernel, by decide +kernel⟩
abbrev s_l_barrel : Stmt := topS 19
abbrev n_l_barrel : List Str := ["_law_script", "_law_turn", "_law_own", "_law_stir", "_law_cell", "_law_figures"]
abbrev p_l_barrel : List Str := ["_law_script", "_law_turn"]
theorem sc_l_barrel : FnScope n_l_barrel p_l_barrel (defScope s_l_barrel) := ⟨rfl, rfl, rfl, by decide +kernel, rfl, by decide +kernel, by decide +kernel⟩
abbrev s_l_dip : Stmt := topS 20
abbrev n_l_dip : List Str := ["_law_barrel_here", "_law_top", "_law_got"]
abbrev p_l_dip : List Str := ["_law_barrel_here", "_law_top"]
theorem sc_l_dip : FnScope n_l_dip p_l_dip (defScope s_l_dip) := ⟨rfl, rfl, rfl, by decide +kernel, rfl, by decide +kernel, by decide +kernel⟩
abbrev s_l_one_of : Stmt := topS 21
abbrev n_l_one_of : List Str := ["_law_barrel_here", "_law_menu"]
abbrev p_l_one_of : List Str := ["_law_barrel_here", "_law_menu"]
theorem sc_l_one_of : FnScope n_l_one_of p_l_one_of (defScope s_l_one_of) := ⟨rfl, rfl, rfl, by decide +kernel, rfl, by decide +kernel, by decide +kernel⟩
abbrev s_l_arrows_for : Stmt := topS 22
abbrev n_l_arrows_for : List Str := ["_law_barrel_here", "_law_width", "_law_stands", "_law_bare", "_law_table", "_law_k", "_law_drawn", "_law_j", "_law_two"]
abbrev p_l_arrows_for : List Str := ["_law_barrel_here", "_law_width", "_law_stands"]
theorem sc_l_arrows_for : FnScope n_l_arrows_for p_l_arrows_for (defScope s_l_arrows_for) := ⟨rfl, rfl, rfl, by decide +kernel, rfl, by decide +kernel, by decide +kernel⟩
abbrev s_l_ends_for : Stmt := topS 23
abbrev n_l_ends_for : List Str := ["_law_barrel_here", "_law_stands", "_law_often", "_law_drawn", "_law_k"]
abbrev p_l_ends_for : List Str := ["_law_barrel_here", "_law_stands"]
theorem sc_l_ends_for : FnScope n_l_ends_for p_l_ends_for (defScope s_l_ends_for) := ⟨rfl, rfl, rfl, by decide +kernel, rfl, by decide +kernel, by decide +kernel⟩
abbrev s_l_is_count : Stmt := topS 24
abbrev n_l_is_count : List Str := ["_law_item", "_law_low", "_law_high"]
abbrev p_l_is_count : List Str := ["_law_item", "_law_low", "_law_high"]
theorem sc_l_is_count : FnScope n_l_is_count p_l_is_count (defScope s_l_is_count) := ⟨rfl, rfl, rfl, by decide +kernel, rfl, by decide +kernel, by decide +kernel⟩
abbrev s_l_any : Stmt := topS 25
abbrev n_l_any : List Str := ["_law_barrel_here", "_law_menu"]
abbrev p_l_any : List Str := ["_law_barrel_here"]
theorem sc_l_any : FnScope n_l_any p_l_any (defScope s_l_any) := ⟨rfl, rfl, rfl, by decide +kernel, rfl, by decide +kernel, by decide +kernel⟩
abbrev s_l_twist : Stmt := topS 26
abbrev n_l_twist : List Str := ["_law_barrel_here", "_law_item", "_law_way_here", "_law_at"]
abbrev p_l_twist : List Str := ["_law_barrel_here", "_law_item"]
theorem sc_l_twist : FnScope n_l_twist p_l_twist (defScope s_l_twist) := ⟨rfl, rfl, rfl, by decide +kernel, rfl, by decide +kernel, by decide +kernel⟩
abbrev s_l_word_of : Stmt := topS 27
abbrev n_l_word_of : List Str := ["_law_e", "_law_below", "_law_pythons", "_law_told"]
abbrev p_l_word_of : List Str := ["_law_e"]
theorem sc_l_word_of : FnScope n_l_word_of p_l_word_of (defScope s_l_word_of) := ⟨rfl, rfl, rfl, by decide +kernel, rfl, by decide +kernel, by decide +kernel⟩
abbrev s_l_came : Stmt := topS 28
abbrev n_l_came : List Str := ["_law_call", "_law_back", "_law_e"]
abbrev p_l_came : List Str := ["_law_call"]
theorem sc_l_came : FnScope n_l_came p_l_came (defScope s_l_came) := ⟨rfl, rfl, rfl, by decide +kernel, rfl, by decide +kernel, by decide +kernel⟩
abbrev s_l_is_table : Stmt := topS 29
abbrev n_l_is_table : List Str := ["_law_item", "_law_width", "_law_each", "_law_goal"]
abbrev p_l_is_table : List Str := ["_law_item", "_law_width"]
theorem sc_l_is_table : FnScope n_l_is_table p_l_is_table (defScope s_l_is_table) := ⟨rfl, rfl, rfl, by decide +kernel, rfl, by decide +kernel, by decide +kernel⟩
abbrev s_l_are_ends : Stmt := topS 30
abbrev n_l_are_ends : List Str := ["_law_item", "_law_stands", "_law_each", "_law_k"]
abbrev p_l_are_ends : List Str := ["_law_item", "_law_stands"]
theorem sc_l_are_ends : FnScope n_l_are_ends p_l_are_ends (defScope s_l_are_ends) := ⟨rfl, rfl, rfl, by decide +kernel, rfl, by decide +kernel, by decide +kernel⟩
abbrev s_l_due : Stmt := topS 31
abbrev n_l_due : List Str := ["_law_width", "_law_table", "_law_shut"]
abbrev p_l_due : List Str := ["_law_width", "_law_table", "_law_shut"]
theorem sc_l_due : FnScope n_l_due p_l_due (defScope s_l_due) := ⟨rfl, rfl, rfl, by decide +kernel, rfl, by decide +kernel, by decide +kernel⟩
abbrev s_l_shows : Stmt := topS 32
abbrev n_l_shows : List Str := ["_law_mine", "_law_width", "_law_table", "_law_shut", "_law_line", "_law_told"]
abbrev p_l_shows : List Str := ["_law_mine", "_law_width", "_law_table", "_law_shut"]
theorem sc_l_shows : FnScope n_l_shows p_l_shows (defScope s_l_shows) := ⟨rfl, rfl, rfl, by decide +kernel, rfl, by decide +kernel, by decide +kernel⟩
abbrev s_l_one_right : Stmt := topS 33
abbrev n_l_one_right : List Str := ["_law_barrel_here", "_law_width", "_law_table", "_law_shut", "_law_turn", "_law_which", "_law_due_here", "_law_got", "_law_each"]
abbrev p_l_one_right : List Str := ["_law_barrel_here", "_law_width", "_law_table", "_law_shut"]
theorem sc_l_one_right : FnScope n_l_one_right p_l_one_right (defScope s_l_one_right) := ⟨rfl, rfl, rfl, by decide +kernel, rfl, by decide +kernel, by decide +kernel⟩
abbrev s_l_right : Stmt := topS 34
abbrev n_l_right : List Str := ["_law_barrel_here", "_law_turn", "_law_width", "_law_stands", "_law_table", "_law_shut", "_law_mine", "_law_twin", "_law_other_shut"]
abbrev p_l_right : List Str := ["_law_barrel_here"]
theorem sc_l_right : FnScope n_l_right p_l_right (defScope s_l_right) := ⟨rfl, rfl, rfl, by decide +kernel, rfl, by decide +kernel, by decide +kernel⟩
abbrev s_law : Stmt := topS 35
abbrev n_law : List Str := ["_law_script", "_law_great", "_law_turn"]
abbrev p_law : List Str := ["_law_script"]
theorem sc_law : FnScope n_law p_law (defScope s_law) := ⟨rfl, rfl, rfl, by decide +kernel, rfl, by decide +kernel, by decide +kernel⟩
/-! ### where the defs stand -/
structure Ad where
  is_integer : Addr
  is_between : Addr
  is_ascending : Addr
  is_stands : Addr
  is_arrows : Addr
  is_goals : Addr
  check_signs : Addr
  Reader_init : Addr
  Reader_signs : Addr
  Reader_arrows : Addr
  Reader_ends : Addr
  Reader_len : Addr
  Reader_repr : Addr
  Reader_eq : Addr
  l_barrel : Addr
  l_dip : Addr
  l_one_of : Addr
  l_arrows_for : Addr
  l_ends_for : Addr
  l_is_count : Addr
  l_any : Addr
  l_twist : Addr
  l_word_of : Addr
  l_came : Addr
  l_is_table : Addr
  l_are_ends : Addr
  l_due : Addr
  l_shows : Addr
  l_one_right : Addr
  l_right : Addr
  law : Addr
  C : Addr
  pr_signs : Addr
  pr_arrows : Addr
  pr_ends : Addr
  x_InvalidArrows : Addr
  x_InvalidEnds : Addr
  x_InvalidSigns : Addr
  x_NoAnswer : Addr
  x_WrongValue : Addr
  xi_InvalidArrows : Addr
  xi_InvalidEnds : Addr
  xi_InvalidSigns : Addr
  c_l_one_right : Addr
  t_l_one_right : Addr
  c_law : Addr
  t_law : Addr
def tabsOf (A : Ad) : List (Addr × Str) := [(A.t_l_one_right, (("_law_one_right" : Str) ++ ".<locals>.") ++ "<lambda>"), (A.t_law, (("law" : Str) ++ ".<locals>.") ++ "<lambda>")]
def codesOf (A : Ad) : List (Addr × Addr) := [(A.c_l_one_right, A.t_l_one_right), (A.c_law, A.t_law)]
structure Txt (K : PySem.W.Frag) (mg : Str → Option Value) (A : Ad) : Prop where
  b_ArithmeticError : mg "ArithmeticError" = none
  b_ValueError : mg "ValueError" = none
  b_abs : mg "abs" = none
  b_all : mg "all" = none
  b_bool : mg "bool" = none
  b_divmod : mg "divmod" = none
  b_int : mg "int" = none
  b_isinstance : mg "isinstance" = none
  b_len : mg "len" = none
  b_list : mg "list" = none
  b_max : mg "max" = none
  b_min : mg "min" = none
  b_range : mg "range" = none
  b_repr : mg "repr" = none
  b_str : mg "str" = none
  b_tuple : mg "tuple" = none
  c_MOST_SIGNS : ∃ t, mg "MOST_SIGNS" = some (.int 8 t)
  c_MOST_STANDS : ∃ t, mg "MOST_STANDS" = some (.int 200 t)
  m_is_integer : mg "is_integer" = some (.ref A.is_integer)
  k_is_integer : PySem.W.keepIn K (.ref A.is_integer) = true
  m_is_between : mg "is_between" = some (.ref A.is_between)
  k_is_between : PySem.W.keepIn K (.ref A.is_between) = true
  m_is_ascending : mg "is_ascending" = some (.ref A.is_ascending)
  k_is_ascending : PySem.W.keepIn K (.ref A.is_ascending) = true
  m_is_stands : mg "is_stands" = some (.ref A.is_stands)
  k_is_stands : PySem.W.keepIn K (.ref A.is_stands) = true
  m_is_arrows : mg "is_arrows" = some (.ref A.is_arrows)
  k_is_arrows : PySem.W.keepIn K (.ref A.is_arrows) = true
  m_is_goals : mg "is_goals" = some (.ref A.is_goals)
  k_is_goals : PySem.W.keepIn K (.ref A.is_goals) = true
  m_check_signs : mg "check_signs" = some (.ref A.check_signs)
  k_check_signs : PySem.W.keepIn K (.ref A.check_signs) = true
  m_l_barrel : mg "_law_barrel" = some (.ref A.l_barrel)
  k_l_barrel : PySem.W.keepIn K (.ref A.l_barrel) = true
  m_l_dip : mg "_law_dip" = some (.ref A.l_dip)
  k_l_dip : PySem.W.keepIn K (.ref A.l_dip) = true
  m_l_one_of : mg "_law_one_of" = some (.ref A.l_one_of)
  k_l_one_of : PySem.W.keepIn K (.ref A.l_one_of) = true
  m_l_arrows_for : mg "_law_arrows_for" = some (.ref A.l_arrows_for)
  k_l_arrows_for : PySem.W.keepIn K (.ref A.l_arrows_for) = true
  m_l_ends_for : mg "_law_ends_for" = some (.ref A.l_ends_for)
  k_l_ends_for : PySem.W.keepIn K (.ref A.l_ends_for) = true
  m_l_is_count : mg "_law_is_count" = some (.ref A.l_is_count)
  k_l_is_count : PySem.W.keepIn K (.ref A.l_is_count) = true
  m_l_any : mg "_law_any" = some (.ref A.l_any)
  k_l_any : PySem.W.keepIn K (.ref A.l_any) = true
  m_l_twist : mg "_law_twist" = some (.ref A.l_twist)
  k_l_twist : PySem.W.keepIn K (.ref A.l_twist) = true
  m_l_word_of : mg "_law_word_of" = some (.ref A.l_word_of)
  k_l_word_of : PySem.W.keepIn K (.ref A.l_word_of) = true
  m_l_came : mg "_law_came" = some (.ref A.l_came)
  k_l_came : PySem.W.keepIn K (.ref A.l_came) = true
  m_l_is_table : mg "_law_is_table" = some (.ref A.l_is_table)
  k_l_is_table : PySem.W.keepIn K (.ref A.l_is_table) = true
  m_l_are_ends : mg "_law_are_ends" = some (.ref A.l_are_ends)
  k_l_are_ends : PySem.W.keepIn K (.ref A.l_are_ends) = true
  m_l_due : mg "_law_due" = some (.ref A.l_due)
  k_l_due : PySem.W.keepIn K (.ref A.l_due) = true
  m_l_shows : mg "_law_shows" = some (.ref A.l_shows)
  k_l_shows : PySem.W.keepIn K (.ref A.l_shows) = true
  m_l_one_right : mg "_law_one_right" = some (.ref A.l_one_right)
  k_l_one_right : PySem.W.keepIn K (.ref A.l_one_right) = true
  m_l_right : mg "_law_right" = some (.ref A.l_right)
  k_l_right : PySem.W.keepIn K (.ref A.l_right) = true
  m_law : mg "law" = some (.ref A.law)
  k_law : PySem.W.keepIn K (.ref A.law) = true
  m_Reader : mg "Reader" = some (.ref A.C)
  cl : Cls K A.C
  mk_Reader : Mk K A.C A.Reader_init
  na_signs : NoAttr K A.C "_signs"
  na_arrows : NoAttr K A.C "_arrows"
  na_ends : NoAttr K A.C "_ends"
  p_Reader_signs : PropOf K A.C "signs" A.pr_signs A.Reader_signs
  p_Reader_arrows : PropOf K A.C "arrows" A.pr_arrows A.Reader_arrows
  p_Reader_ends : PropOf K A.C "ends" A.pr_ends A.Reader_ends
  own_len : PySem.W.findIn K (.ref A.C) "__len__" = some (some (.ref A.Reader_len))
  isf_len : PySem.W.isFn K (.ref A.Reader_len) = true
  t_ha : PySem.W.findIn K (.ref A.C) "__class__" = some (some (.builtin "object.__class__"))
  t_hn : PySem.W.specialIn K (.builtin "object.__class__") "__get__" = some (some (.builtin "getset_descriptor.__get__"))
  t_tk : PySem.W.takesIn K (.builtin "object.__class__") = some true
  t_mo : PySem.W.mroIn K A.C (.type "object") = some true
  own_repr : PySem.W.findIn K (.ref A.C) "__repr__" = some (some (.ref A.Reader_repr))
  isf_repr : PySem.W.isFn K (.ref A.Reader_repr) = true
  nb : PySem.W.findIn K (.ref A.C) "__bool__" = some none
  own_eq : PySem.W.findIn K (.ref A.C) "__eq__" = some (some (.ref A.Reader_eq))
  isf_eq : PySem.W.isFn K (.ref A.Reader_eq) = true
  own_ne : PySem.W.findIn K (.ref A.C) "__ne__" = some (some (.builtin "object.__ne__"))
  nf_C : PySem.W.notFirst K A.C (.ref A.C) = true
  kt_C : PySem.W.kitOne K (.ref A.C) (.ref A.C) = some true
  nf_tuple : PySem.W.notFirst K A.C (.type "tuple") = true
  kc_NoneType : PySem.W.kitOne K (.type "NoneType") (.ref A.C) = some false
  kc_bool : PySem.W.kitOne K (.type "bool") (.ref A.C) = some false
  kc_int : PySem.W.kitOne K (.type "int") (.ref A.C) = some false
  kc_str : PySem.W.kitOne K (.type "str") (.ref A.C) = some false
  kc_tuple : PySem.W.kitOne K (.type "tuple") (.ref A.C) = some false
  kc_list : PySem.W.kitOne K (.type "list") (.ref A.C) = some false
  kc_dict : PySem.W.kitOne K (.type "dict") (.ref A.C) = some false
  mx_InvalidArrows : mg "InvalidArrows" = some (.ref A.x_InvalidArrows)
  mx_InvalidEnds : mg "InvalidEnds" = some (.ref A.x_InvalidEnds)
  mx_InvalidSigns : mg "InvalidSigns" = some (.ref A.x_InvalidSigns)
  mx_NoAnswer : mg "NoAnswer" = some (.ref A.x_NoAnswer)
  mx_WrongValue : mg "WrongValue" = some (.ref A.x_WrongValue)
  x_InvalidArrows : Ex_given.Tx K mg "InvalidArrows" "ValueError" "ValueError.__new__" "ValueError.__init__" [.type "ValueError", .type "Exception", .type "BaseException", .type "object"] A.x_InvalidArrows A.xi_InvalidArrows
  x_InvalidEnds : Ex_given.Tx K mg "InvalidEnds" "ValueError" "ValueError.__new__" "ValueError.__init__" [.type "ValueError", .type "Exception", .type "BaseException", .type "object"] A.x_InvalidEnds A.xi_InvalidEnds
  x_InvalidSigns : Ex_given.Tx K mg "InvalidSigns" "ValueError" "ValueError.__new__" "ValueError.__init__" [.type "ValueError", .type "Exception", .type "BaseException", .type "object"] A.x_InvalidSigns A.xi_InvalidSigns
  kit_InvalidArrows_InvalidSigns : PySem.W.kitOne K (.ref A.x_InvalidArrows) (.ref A.x_InvalidSigns) = some false
  kit_InvalidArrows_InvalidEnds : PySem.W.kitOne K (.ref A.x_InvalidArrows) (.ref A.x_InvalidEnds) = some false
  kit_InvalidArrows_InvalidArrows : PySem.W.kitOne K (.ref A.x_InvalidArrows) (.ref A.x_InvalidArrows) = some true
  kit_InvalidArrows_NoAnswer : PySem.W.kitOne K (.ref A.x_InvalidArrows) (.ref A.x_NoAnswer) = some false
  kit_InvalidArrows_WrongValue : PySem.W.kitOne K (.ref A.x_InvalidArrows) (.ref A.x_WrongValue) = some true
  kit_InvalidArrows_ValueError : PySem.W.kitOne K (.ref A.x_InvalidArrows) (.type "ValueError") = some true
  kit_InvalidArrows_ArithmeticError : PySem.W.kitOne K (.ref A.x_InvalidArrows) (.type "ArithmeticError") = some false
  exm_InvalidArrows : PySem.W.exmAny K (.ref A.x_InvalidArrows) [.ref A.x_WrongValue, .ref A.x_NoAnswer] = some true
  kit_InvalidEnds_InvalidSigns : PySem.W.kitOne K (.ref A.x_InvalidEnds) (.ref A.x_InvalidSigns) = some false
  kit_InvalidEnds_InvalidEnds : PySem.W.kitOne K (.ref A.x_InvalidEnds) (.ref A.x_InvalidEnds) = some true
  kit_InvalidEnds_InvalidArrows : PySem.W.kitOne K (.ref A.x_InvalidEnds) (.ref A.x_InvalidArrows) = some false
  kit_InvalidEnds_NoAnswer : PySem.W.kitOne K (.ref A.x_InvalidEnds) (.ref A.x_NoAnswer) = some false
  kit_InvalidEnds_WrongValue : PySem.W.kitOne K (.ref A.x_InvalidEnds) (.ref A.x_WrongValue) = some true
  kit_InvalidEnds_ValueError : PySem.W.kitOne K (.ref A.x_InvalidEnds) (.type "ValueError") = some true
  kit_InvalidEnds_ArithmeticError : PySem.W.kitOne K (.ref A.x_InvalidEnds) (.type "ArithmeticError") = some false
  exm_InvalidEnds : PySem.W.exmAny K (.ref A.x_InvalidEnds) [.ref A.x_WrongValue, .ref A.x_NoAnswer] = some true
  kit_InvalidSigns_InvalidSigns : PySem.W.kitOne K (.ref A.x_InvalidSigns) (.ref A.x_InvalidSigns) = some true
  kit_InvalidSigns_InvalidEnds : PySem.W.kitOne K (.ref A.x_InvalidSigns) (.ref A.x_InvalidEnds) = some false
  kit_InvalidSigns_InvalidArrows : PySem.W.kitOne K (.ref A.x_InvalidSigns) (.ref A.x_InvalidArrows) = some false
  kit_InvalidSigns_NoAnswer : PySem.W.kitOne K (.ref A.x_InvalidSigns) (.ref A.x_NoAnswer) = some false
  kit_InvalidSigns_WrongValue : PySem.W.kitOne K (.ref A.x_InvalidSigns) (.ref A.x_WrongValue) = some true
  kit_InvalidSigns_ValueError : PySem.W.kitOne K (.ref A.x_InvalidSigns) (.type "ValueError") = some true
  kit_InvalidSigns_ArithmeticError : PySem.W.kitOne K (.ref A.x_InvalidSigns) (.type "ArithmeticError") = some false
  exm_InvalidSigns : PySem.W.exmAny K (.ref A.x_InvalidSigns) [.ref A.x_WrongValue, .ref A.x_NoAnswer] = some true
  ne_l_one_right_law : A.t_l_one_right ≠ A.t_law
/-! ### the defs themselves -/
structure Fds where
  is_integer : FuncData
  is_between : FuncData
  is_ascending : FuncData
  is_stands : FuncData
  is_arrows : FuncData
  is_goals : FuncData
  check_signs : FuncData
  Reader_init : FuncData
  Reader_signs : FuncData
  Reader_arrows : FuncData
  Reader_ends : FuncData
  Reader_len : FuncData
  Reader_repr : FuncData
  Reader_eq : FuncData
  l_barrel : FuncData
  l_dip : FuncData
  l_one_of : FuncData
  l_arrows_for : FuncData
  l_ends_for : FuncData
  l_is_count : FuncData
  l_any : FuncData
  l_twist : FuncData
  l_word_of : FuncData
  l_came : FuncData
  l_is_table : FuncData
  l_are_ends : FuncData
  l_due : FuncData
  l_shows : FuncData
  l_one_right : FuncData
  l_right : FuncData
  law : FuncData
structure Funs (K : PySem.W.Frag) (A : Ad) (fd : Fds) : Prop where
  F_is_integer : Fun K "is_integer" "is_integer" s_is_integer A.is_integer fd.is_integer
  b_is_integer : L2.Binds K fd.is_integer p_is_integer []
  F_is_between : Fun K "is_between" "is_between" s_is_between A.is_between fd.is_between
  b_is_between : L2.Binds K fd.is_between p_is_between []
  F_is_ascending : Fun K "is_ascending" "is_ascending" s_is_ascending A.is_ascending fd.is_ascending
  b_is_ascending : L2.Binds K fd.is_ascending p_is_ascending []
  F_is_stands : Fun K "is_stands" "is_stands" s_is_stands A.is_stands fd.is_stands
  b_is_stands : L2.Binds K fd.is_stands p_is_stands []
  F_is_arrows : Fun K "is_arrows" "is_arrows" s_is_arrows A.is_arrows fd.is_arrows
  b_is_arrows : L2.Binds K fd.is_arrows p_is_arrows []
  F_is_goals : Fun K "is_goals" "is_goals" s_is_goals A.is_goals fd.is_goals
  b_is_goals : L2.Binds K fd.is_goals p_is_goals []
  F_check_signs : Fun K "check_signs" "check_signs" s_check_signs A.check_signs fd.check_signs
  b_check_signs : L2.Binds K fd.check_signs p_check_signs []
  F_Reader_init : Fun K "__init__" "Reader.__init__" s_Reader_init A.Reader_init fd.Reader_init
  b_Reader_init : L2.Binds K fd.Reader_init p_Reader_init []
  F_Reader_signs : Fun K "signs" "Reader.signs" s_Reader_signs A.Reader_signs fd.Reader_signs
  b_Reader_signs : L2.Binds K fd.Reader_signs p_Reader_signs []
  F_Reader_arrows : Fun K "arrows" "Reader.arrows" s_Reader_arrows A.Reader_arrows fd.Reader_arrows
  b_Reader_arrows : L2.Binds K fd.Reader_arrows p_Reader_arrows []
  F_Reader_ends : Fun K "ends" "Reader.ends" s_Reader_ends A.Reader_ends fd.Reader_ends
  b_Reader_ends : L2.Binds K fd.Reader_ends p_Reader_ends []
  F_Reader_len : Fun K "__len__" "Reader.__len__" s_Reader_len A.Reader_len fd.Reader_len
  b_Reader_len : L2.Binds K fd.Reader_len p_Reader_len []
  F_Reader_repr : Fun K "__repr__" "Reader.__repr__" s_Reader_repr A.Reader_repr fd.Reader_repr
  b_Reader_repr : L2.Binds K fd.Reader_repr p_Reader_repr []
  F_Reader_eq : Fun K "__eq__" "Reader.__eq__" s_Reader_eq A.Reader_eq fd.Reader_eq
  b_Reader_eq : L2.Binds K fd.Reader_eq p_Reader_eq []
  F_l_barrel : Fun K "_law_barrel" "_law_barrel" s_l_barrel A.l_barrel fd.l_barrel
  b_l_barrel : L2.Binds K fd.l_barrel p_l_barrel []
  F_l_dip : Fun K "_law_dip" "_law_dip" s_l_dip A.l_dip fd.l_dip
  b_l_dip : L2.Binds K fd.l_dip p_l_dip []
  F_l_one_of : Fun K "_law_one_of" "_law_one_of" s_l_one_of A.l_one_of fd.l_one_of
  b_l_one_of : L2.Binds K fd.l_one_of p_l_one_of []
  F_l_arrows_for : Fun K "_law_arrows_for" "_law_arrows_for" s_l_arrows_for A.l_arrows_for fd.l_arrows_for
  b_l_arrows_for : L2.Binds K fd.l_arrows_for p_l_arrows_for []
  F_l_ends_for : Fun K "_law_ends_for" "_law_ends_for" s_l_ends_for A.l_ends_for fd.l_ends_for
  b_l_ends_for : L2.Binds K fd.l_ends_for p_l_ends_for []
  F_l_is_count : Fun K "_law_is_count" "_law_is_count" s_l_is_count A.l_is_count fd.l_is_count
  b_l_is_count : L2.Binds K fd.l_is_count p_l_is_count []
  F_l_any : Fun K "_law_any" "_law_any" s_l_any A.l_any fd.l_any
  b_l_any : L2.Binds K fd.l_any p_l_any []
  F_l_twist : Fun K "_law_twist" "_law_twist" s_l_twist A.l_twist fd.l_twist
  b_l_twist : L2.Binds K fd.l_twist p_l_twist []
  F_l_word_of : Fun K "_law_word_of" "_law_word_of" s_l_word_of A.l_word_of fd.l_word_of
  b_l_word_of : L2.Binds K fd.l_word_of p_l_word_of []
  F_l_came : Fun K "_law_came" "_law_came" s_l_came A.l_came fd.l_came
  b_l_came : L2.Binds K fd.l_came p_l_came []
  F_l_is_table : Fun K "_law_is_table" "_law_is_table" s_l_is_table A.l_is_table fd.l_is_table
  b_l_is_table : L2.Binds K fd.l_is_table p_l_is_table []
  F_l_are_ends : Fun K "_law_are_ends" "_law_are_ends" s_l_are_ends A.l_are_ends fd.l_are_ends
  b_l_are_ends : L2.Binds K fd.l_are_ends p_l_are_ends []
  F_l_due : Fun K "_law_due" "_law_due" s_l_due A.l_due fd.l_due
  b_l_due : L2.Binds K fd.l_due p_l_due []
  F_l_shows : Fun K "_law_shows" "_law_shows" s_l_shows A.l_shows fd.l_shows
  b_l_shows : L2.Binds K fd.l_shows p_l_shows []
  F_l_one_right : FunC K "_law_one_right" "_law_one_right" s_l_one_right A.l_one_right fd.l_one_right A.c_l_one_right
  b_l_one_right : L2.Binds K fd.l_one_right p_l_one_right []
  F_l_right : Fun K "_law_right" "_law_right" s_l_right A.l_right fd.l_right
  b_l_right : L2.Binds K fd.l_right p_l_right []
  F_law : FunC K "law" "law" s_law A.law fd.law A.c_law
  b_law : L2.Binds K fd.law p_law []
end K6

set_option Elab.async false
set_option linter.all false
set_option maxRecDepth 100000
set_option maxHeartbeats 4000000
namespace K6
open PySem PySem.Spec PyProof.Rows L2 Rw
/-! ### data that stands in the heap -/
section
variable {K : PySem.W.Frag} {H H' H1 : Hp}
theorem sqL_mono (s : Same H H') {a : Addr} {xs : List V} (h : SqL K H a xs) : SqL K H' a xs := s.seq h
theorem sqT_mono (s : Same H H') {a : Addr} {xs : List V} (h : SqT K H a xs) : SqT K H' a xs := by
  rcases h with (h | ⟨o, h⟩) | h
  · exact .inl (.inl (s _ _ h))
  · exact .inl (.inr ⟨o, s _ _ h⟩)
  · exact .inr h
mutual
theorem dp_mono (s : Same H H') : ∀ (d : PyData) (v : V), Dp K H v d → Dp K H' v d
  | .none, _, h => by cases h; exact .non
  | .bool b, _, h => by cases h; exact .bl b
  | .int i, _, h => by cases h; exact .int i
  | .str x, _, h => by cases h; exact .str x
  | .list ds, _, h => by
    cases h with
    | lst a b => exact .lst (sqL_mono s a) (dps_mono s ds _ b)
  | .tuple ds, _, h => by
    cases h with
    | tup a b => exact .tup (sqT_mono s a) (dps_mono s ds _ b)
  | .dict _, _, h => by cases h
theorem dps_mono (s : Same H H') : ∀ (ds : List PyData) (vs : List V), DpAll K H vs ds → DpAll K H' vs ds
  | [], _, h => by cases h; exact .nil
  | d :: ds, _, h => by
    cases h with
    | cons a b => exact .cons (dp_mono s d _ a) (dps_mono s ds _ b)
end
theorem dps_len : ∀ {vs : List V} {ds : List PyData}, DpAll K H vs ds → vs.length = ds.length
  | _, _, .nil => rfl
  | _, _, .cons _ b => by
    show _ + 1 = _ + 1
    rw [dps_len b]
theorem dps_get : ∀ {vs : List V} {ds : List PyData} {i : Nat} {d : PyData}, DpAll K H vs ds → ds[i]? = some d → ∃ v, vs[i]? = some v ∧ Dp K H v d
  | _, _, _, _, .nil, h => by simp at h
  | _, _, 0, _, .cons a b, h => by
    have e := Option.some.inj h
    subst e
    exact ⟨_, rfl, a⟩
  | _, _, i + 1, _, .cons a b, h => dps_get (i := i) b h
theorem dps_getV : ∀ {vs : List V} {ds : List PyData} {i : Nat} {v : V}, DpAll K H vs ds → vs[i]? = some v → ∃ d, ds[i]? = some d ∧ Dp K H v d
  | _, _, _, _, .nil, h => by simp at h
  | _, _, 0, _, .cons a b, h => by
    have e := Option.some.inj h
    subst e
    exact ⟨_, rfl, a⟩
  | _, _, i + 1, _, .cons a b, h => dps_getV (i := i) b h
theorem dps_snoc : ∀ {vs : List V} {ds : List PyData} {v : V} {d : PyData}, DpAll K H vs ds → Dp K H v d → DpAll K H (vs ++ [v]) (ds ++ [d])
  | _, _, _, _, .nil, h => .cons h .nil
  | _, _, _, _, .cons a b, h => .cons a (dps_snoc b h)
theorem dps_app : ∀ {vs us : List V} {ds es : List PyData}, DpAll K H vs ds → DpAll K H us es → DpAll K H (vs ++ us) (ds ++ es)
  | _, _, _, _, .nil, h => h
  | _, _, _, _, .cons a b, h => .cons a (dps_app b h)
theorem dps_ints : ∀ {vs : List V} {ns : List Int}, DpAll K H vs (ns.map PyData.int) → vs = ns.map V.int
  | _, [], h => by cases h; rfl
  | _, n :: ns, h => by
    cases h with
    | cons a b =>
      cases a
      rw [dps_ints b]
      rfl
theorem ints_dps : ∀ (ns : List Int), DpAll K H (ns.map V.int) (ns.map PyData.int)
  | [] => .nil
  | n :: ns => .cons (.int n) (ints_dps ns)
theorem dps_strs : ∀ {vs : List V} {ns : List Str}, DpAll K H vs (ns.map PyData.str) → vs = ns.map V.str
  | _, [], h => by cases h; rfl
  | _, n :: ns, h => by
    cases h with
    | cons a b =>
      cases a
      rw [dps_strs b]
      rfl
theorem strs_dps : ∀ (ns : List Str), DpAll K H (ns.map V.str) (ns.map PyData.str)
  | [] => .nil
  | n :: ns => .cons (.str n) (strs_dps ns)
def vO : Option Nat → V
  | none => .non
  | some n => .int (n : Int)
def dO : Option Nat → PyData
  | none => .none
  | some n => .int (n : Int)
theorem dps_opts : ∀ {vs : List V} {ns : List (Option Nat)}, DpAll K H vs (ns.map dO) → vs = ns.map vO
  | _, [], h => by cases h; rfl
  | _, none :: ns, h => by
    cases h with
    | cons a b =>
      cases a
      rw [dps_opts b]
      rfl
  | _, some n :: ns, h => by
    cases h with
    | cons a b =>
      cases a
      rw [dps_opts b]
      rfl
theorem opts_dps : ∀ (ns : List (Option Nat)), DpAll K H (ns.map vO) (ns.map dO)
  | [] => .nil
  | none :: ns => .cons .non (opts_dps ns)
  | some n :: ns => .cons (.int n) (opts_dps ns)
theorem dp_tup {v : V} {ds : List PyData} (h : Dp K H v (.tuple ds)) : ∃ a xs, v = .ref a ∧ SqT K H a xs ∧ DpAll K H xs ds := by
  cases h with
  | tup a b => exact ⟨_, _, rfl, a, b⟩
theorem dp_lst {v : V} {ds : List PyData} (h : Dp K H v (.list ds)) : ∃ a xs, v = .ref a ∧ SqL K H a xs ∧ DpAll K H xs ds := by
  cases h with
  | lst a b => exact ⟨_, _, rfl, a, b⟩
/-! ### heaps -/
theorem same_upd {p : Addr} {o : HO} (h : H p = none) : Same H (upd H p o) := fun b x e => by
  rw [upd_ne (ne_of_none e h)]
  exact e
/-- a new object, changed later -/
theorem same_put {p : Addr} {o : HO} (s : Same H H1) (h : H p = none) : Same H (upd H1 p o) := fun b x e => by
  rw [upd_ne (ne_of_none e h)]
  exact s b x e
theorem lst_of {p : Addr} {xs : List V} (h : H p = some (.lst xs)) : SqL K H p xs := .inl (.inl h)
theorem tup_of {p : Addr} {xs : List V} (h : H p = some (.tup xs)) : SqT K H p xs := .inl (.inl h)
theorem szl {n : Nat} (h : n ≤ 100000) : n ≤ sizeLine := Nat.le_trans h (by decide)
theorem szt {n : Nat} (h : n < 100000) : n < sizeLine := Nat.lt_of_lt_of_le h (by decide)
/-- the heap without one object -/
def del (b : Addr) (H : Hp) : Hp := fun x => if x = b then none else H x
theorem del_same (b : Addr) : Same (del b H) H := fun x o e => by
  unfold del at e
  by_cases h : x = b
  · rw [if_pos h] at e
    cases e
  · rw [if_neg h] at e
    exact e
theorem del_ne {b x : Addr} (h : x ≠ b) : del b H x = H x := if_neg h
theorem del_mono {b : Addr} (s : Same H H') : Same (del b H) (del b H') := fun x o e => by
  unfold del at e ⊢
  by_cases h : x = b
  · rw [if_pos h] at e
    cases e
  · rw [if_neg h] at e ⊢
    exact s x o e
/-- what a draw may change: the barrel alone -/
def Keep (b : Addr) (H H' : Hp) : Prop := Same (del b H) (del b H')
theorem Keep.refl (b : Addr) (H : Hp) : Keep b H H := Same.refl _
theorem Keep.trans {b : Addr} {H2 : Hp} (a : Keep b H H1) (c : Keep b H1 H2) : Keep b H H2 := Same.trans a c
theorem Keep.of {b : Addr} (s : Same H H') : Keep b H H' := del_mono s
theorem keep_upd {b : Addr} {o : HO} : Keep b H (upd H b o) := fun x u e => by
  have hx : x ≠ b := by
    intro z
    unfold del at e
    rw [if_pos z] at e
    cases e
  rw [del_ne hx] at e ⊢
  rw [upd_ne hx]
  exact e
theorem del_none {b : Addr} : del b H b = none := if_pos rfl
/-- an object that is new is no barrel, and is not told ahead -/
theorem Keep.get {b x : Addr} {o : HO} (k : Keep b H H') (h : x ≠ b) (e : H x = some o) : H' x = some o := by
  have z := k x o (by rw [del_ne h]; exact e)
  rw [del_ne h] at z
  exact z
end
end K6

set_option Elab.async false
set_option linter.all false
set_option maxRecDepth 100000
set_option maxHeartbeats 4000000
namespace K6
open PySem PySem.Spec PyProof.Rows L2 Rw
/-! ### comprehensions: what a turn adds, and the whole -/
section
variable {K : PySem.W.Frag} {H : Hp} {σ : L2.St} {tt : TT} {te : TE} {vs : List Nat} {j : Nat} {Q : VK}
def pre (st : Nat → List V) (n : Nat) : List V := (List.range n).flatMap st
theorem pre_succ (st : Nat → List V) (n : Nat) : pre st (n + 1) = pre st n ++ st n := by
  unfold pre
  rw [List.range_succ, List.flatMap_append]
  simp
theorem pre_len {st : Nat → List V} (h : ∀ i, (st i).length ≤ 1) : ∀ n, (pre st n).length ≤ n
  | 0 => Nat.le_refl 0
  | n + 1 => by
    rw [pre_succ, List.length_append]
    have a := pre_len h n
    have b := h n
    omega
theorem pre_map {f : Nat → V} (n : Nat) : pre (fun i => [f i]) n = (List.range n).map f := by
  unfold pre
  induction n with
  | zero => rfl
  | succ n ih => rw [List.range_succ, List.flatMap_append, List.map_append, ih]; rfl
/-- a turn: what is added is [y], or nothing -/
def Turn1 (tt : TT) (te : TE) (σ : L2.St) (H : Hp) (s : List V) : Prop := ∀ H1 (R : V → Hp → Prop) (N : Hp → Prop), Same H H1 → (∀ y H2, s = [y] → Same H1 H2 → R y H2) → (∀ H2, s = [] → Same H1 H2 → N H2) →
  tt σ H1 (fun b H2 => if b = true then te σ H2 R else N H2)
theorem lcG (J : It) (n : Nat) (xs : Nat → V) (st : Nat → List V) (hst : ∀ i, (st i).length ≤ 1) (hn : n < 100000)
    (hgo : ∀ i H1, i < n → Same H H1 → J.go i H1) (hstop : ∀ H1, Same H H1 → J.stop n H1) (hyld : ∀ i H1 x H', i < n → Same H H1 → J.yld i H1 x H' → H' = H1 ∧ x = xs i)
    (hw : ∀ x, wipe ((wipe σ vs).set j (some x)) vs = wipe σ vs) (turn : ∀ i, i < n → Turn1 tt te ((wipe σ vs).set j (some (xs i))) H (st i))
    (fin : ∀ D H1, H D = none → Same H H1 → H1 D = some (.lst (pre st n)) → Q (.ref D) H1) :
    ∀ D, H D = none → ∃ W : Nat → Nat → Hp → Prop, (∃ m, W 0 m (upd H D (.lst []))) ∧ ∀ i m H, W i m H →
      (J.stop i H ∧ Q (.ref D) H) ∨ (J.go i H ∧ ∃ Nx : Hp → Prop, (∀ H', Nx H' → ∃ m', m' < m ∧ W (i + 1) m' H') ∧ ∀ x H', J.yld i H x H' → gName j x (wipe σ vs) H' fun σ2 H2 => wipe σ2 vs = wipe σ vs ∧ tt σ2 H2 fun b H3 =>
        if b = true then te σ2 H3 fun y H4 => ∃ acc, H4 D = some (.lst acc) ∧ acc.length < sizeLine ∧ Nx (upd H4 D (.lst (acc ++ [y]))) else Nx H3) := by
  intro D hD
  refine ⟨fun i m H1 => m = n - i ∧ i ≤ n ∧ Same H H1 ∧ H1 D = some (.lst (pre st i)), ⟨n, rfl, Nat.zero_le _, same_upd hD, upd_same⟩, ?_⟩
  rintro i m H1 ⟨rfl, hi, s1, h1⟩
  by_cases c : i < n
  · refine .inr ⟨hgo i H1 c s1, fun H2 => Same H H2 ∧ H2 D = some (.lst (pre st (i + 1))), fun H2 h2 => ⟨n - (i + 1), by omega, rfl, c, h2.1, h2.2⟩, fun x H' hy => ?_⟩
    obtain ⟨rfl, rfl⟩ := hyld i H1 x H' c s1 hy
    refine ⟨hw _, ?_⟩
    refine turn i c H' _ _ s1 (fun y H2 hs s2 => ?_) (fun H2 hs s2 => ?_)
    · refine ⟨pre st i, s2 D _ h1, szt (by have := pre_len hst i; omega), ?_, ?_⟩
      · exact same_put (s1.trans s2) hD
      · rw [pre_succ, hs]
        exact upd_same
    · refine ⟨s1.trans s2, ?_⟩
      rw [pre_succ, hs, List.append_nil]
      exact s2 D _ h1
  · have e : i = n := by omega
    subst e
    exact .inl ⟨hstop H1 s1, fin D H1 hD s1 h1⟩
theorem getD_of {xs : List V} {i : Nat} {x : V} (h : xs[i]? = some x) : xs.getD i .non = x := by
  rw [List.getD_eq_getElem?_getD, h]
  rfl
theorem lt_of_get {α : Type} {xs : List α} {i : Nat} {x : α} (h : xs[i]? = some x) : i < xs.length := (List.getElem?_eq_some_iff.mp h).1
/-- over a tuple -/
theorem cT {tl : TE} {a : Addr} {xs : List V} (st : Nat → List V) (htl : ∀ R : VK, R (.ref a) H → tl σ H R) (hx : SqT K H a xs) (hst : ∀ i, (st i).length ≤ 1) (hn : xs.length < 100000)
    (hw : ∀ x, wipe ((wipe σ vs).set j (some x)) vs = wipe σ vs) (turn : ∀ i x, xs[i]? = some x → Turn1 tt te ((wipe σ vs).set j (some x)) H (st i))
    (fin : ∀ D H1, H D = none → Same H H1 → H1 D = some (.lst (pre st xs.length)) → Q (.ref D) H1) : tLc (iTup K tl) (gName j) tt te vs σ H Q := by
  refine htl _ ⟨a, rfl, ⟨xs, hx⟩, ?_⟩
  refine lcG (Itt K a) xs.length (fun i => xs.getD i .non) st hst hn (fun i H1 hi s => ?_) (fun H1 s => ?_) (fun i H1 x H' hi s hy => ?_) hw (fun i hi => ?_) fin
  · exact ⟨xs, xs[i], sqT_mono s hx, by simp [hi]⟩
  · exact ⟨xs, sqT_mono s hx, Nat.le_refl _⟩
  · obtain ⟨e, y⟩ := hy
    exact ⟨e, (getD_of (y xs (sqT_mono s hx))).symm⟩
  · have h : xs[i]? = some (xs.getD i .non) := by
      rw [List.getElem?_eq_getElem hi, List.getD_eq_getElem?_getD, List.getElem?_eq_getElem hi]
      rfl
    exact turn i _ h
/-- over a list that a call has handed back -/
theorem lL {Qd : Addr → Hp → Prop} {a : Addr} {xs : List V} (st : Nat → List V) (hx : SqL K H a xs) (hst : ∀ i, (st i).length ≤ 1) (hn : xs.length < 100000)
    (hw : ∀ x, wipe ((wipe σ vs).set j (some x)) vs = wipe σ vs) (turn : ∀ i x, xs[i]? = some x → Turn1 tt te ((wipe σ vs).set j (some x)) H (st i))
    (fin : ∀ D H1, H D = none → Same H H1 → H1 D = some (.lst (pre st xs.length)) → Qd D H1) :
    ∀ D, H D = none → ∃ W : Nat → Nat → Hp → Prop, (∃ m, W 0 m (upd H D (.lst []))) ∧ ∀ i m H, W i m H →
      ((Itl K a).stop i H ∧ Qd D H) ∨ ((Itl K a).go i H ∧ ∃ Nx : Hp → Prop, (∀ H', Nx H' → ∃ m', m' < m ∧ W (i + 1) m' H') ∧ ∀ x H', (Itl K a).yld i H x H' → gName j x (wipe σ vs) H' fun σ2 H2 => wipe σ2 vs = wipe σ vs ∧ tt σ2 H2 fun b H3 =>
        if b = true then te σ2 H3 fun y H4 => ∃ acc, H4 D = some (.lst acc) ∧ acc.length < sizeLine ∧ Nx (upd H4 D (.lst (acc ++ [y]))) else Nx H3) := by
  refine lcG (Q := fun v H => match v with | .ref D => Qd D H | _ => False) (Itl K a) xs.length (fun i => xs.getD i .non) st hst hn (fun i H1 hi s => ?_) (fun H1 s => ?_) (fun i H1 x H' hi s hy => ?_) hw (fun i hi => ?_) fin
  · exact ⟨xs, xs[i], sqL_mono s hx, by simp [hi]⟩
  · exact ⟨xs, sqL_mono s hx, Nat.le_refl _⟩
  · obtain ⟨e, y⟩ := hy
    exact ⟨e, (getD_of (y xs (sqL_mono s hx))).symm⟩
  · have h : xs[i]? = some (xs.getD i .non) := by
      rw [List.getElem?_eq_getElem hi, List.getD_eq_getElem?_getD, List.getElem?_eq_getElem hi]
      rfl
    exact turn i _ h
/-- over a list -/
theorem cL {tl : TE} {a : Addr} {xs : List V} (st : Nat → List V) (htl : ∀ R : VK, R (.ref a) H → tl σ H R) (hx : SqL K H a xs) (hst : ∀ i, (st i).length ≤ 1) (hn : xs.length < 100000)
    (hw : ∀ x, wipe ((wipe σ vs).set j (some x)) vs = wipe σ vs) (turn : ∀ i x, xs[i]? = some x → Turn1 tt te ((wipe σ vs).set j (some x)) H (st i))
    (fin : ∀ D H1, H D = none → Same H H1 → H1 D = some (.lst (pre st xs.length)) → Q (.ref D) H1) : tLc (iList K tl) (gName j) tt te vs σ H Q := by
  refine htl _ ⟨a, rfl, ⟨xs, hx⟩, ?_⟩
  refine lcG (Itl K a) xs.length (fun i => xs.getD i .non) st hst hn (fun i H1 hi s => ?_) (fun H1 s => ?_) (fun i H1 x H' hi s hy => ?_) hw (fun i hi => ?_) fin
  · exact ⟨xs, xs[i], sqL_mono s hx, by simp [hi]⟩
  · exact ⟨xs, sqL_mono s hx, Nat.le_refl _⟩
  · obtain ⟨e, y⟩ := hy
    exact ⟨e, (getD_of (y xs (sqL_mono s hx))).symm⟩
  · have h : xs[i]? = some (xs.getD i .non) := by
      rw [List.getElem?_eq_getElem hi, List.getD_eq_getElem?_getD, List.getElem?_eq_getElem hi]
      rfl
    exact turn i _ h
/-- over range(n) -/
theorem cR {ta : TA} {n : Nat} {m : Int} (st : Nat → List V) (hm : m.toNat = n) (hb : -1000 ≤ m) (hta : ∀ R : List V → Hp → Prop, R [.int m] H → ta σ H R) (hst : ∀ i, (st i).length ≤ 1) (hn : n < 100000)
    (hw : ∀ x, wipe ((wipe σ vs).set j (some x)) vs = wipe σ vs) (turn : ∀ i : Nat, i < n → Turn1 tt te ((wipe σ vs).set j (some (.int (i : Int)))) H (st i))
    (fin : ∀ D H1, H D = none → Same H H1 → H1 D = some (.lst (pre st n)) → Q (.ref D) H1) : tLc (iRng1 ta) (gName j) tt te vs σ H Q := by
  refine hta _ ⟨m, rfl, by omega, by omega, ?_⟩
  rw [hm]
  refine lcG (Itr 0 n) n (fun i => .int (i : Int)) st hst hn (fun i H1 hi s => hi) (fun H1 s => Nat.le_refl _) (fun i H1 x H' hi s hy => ?_) hw turn fin
  obtain ⟨e, y⟩ := hy
  refine ⟨e, ?_⟩
  rw [y, Int.zero_add]
/-- over a text -/
theorem cS {tl : TE} {z : Str} (st : Nat → List V) (htl : ∀ R : VK, R (.str z) H → tl σ H R) (hst : ∀ i, (st i).length ≤ 1) (hn : z.cps.size < 100000)
    (hw : ∀ x, wipe ((wipe σ vs).set j (some x)) vs = wipe σ vs) (turn : ∀ i c, z.cps[i]? = some c → Turn1 tt te ((wipe σ vs).set j (some (.str ⟨#[c]⟩))) H (st i))
    (fin : ∀ D H1, H D = none → Same H H1 → H1 D = some (.lst (pre st z.cps.size)) → Q (.ref D) H1) : tLc (iStr tl) (gName j) tt te vs σ H Q := by
  refine htl _ ⟨z, rfl, ?_⟩
  refine lcG (Its z) z.cps.size (fun i => .str ⟨#[z.cps.getD i 0]⟩) st hst hn (fun i H1 hi s => hi) (fun H1 s => Nat.le_refl _) (fun i H1 x H' hi s hy => ?_) hw (fun i hi => ?_) fin
  · obtain ⟨e, c, hc, rfl⟩ := hy
    refine ⟨e, ?_⟩
    simp [Array.getD_eq_getD_getElem?, hc]
  · have h : z.cps[i]? = some (z.cps.getD i 0) := by
      simp [Array.getD_eq_getD_getElem?, hi]
    exact turn i _ h
/-- no test -/
theorem turn_yes {y : V} (h : ∀ H1 (R : V → Hp → Prop), Same H H1 → (∀ H2, Same H1 H2 → R y H2) → te σ H1 R) : Turn1 tYes te σ H [y] := by
  intro H1 R N s hy hn
  show (if true = true then te σ H1 R else N H1)
  rw [if_pos rfl]
  exact h H1 R s fun H2 s2 => hy y H2 rfl s2
theorem replicate_pre (n : Nat) (v : V) : pre (fun _ => [v]) n = List.replicate n v := by
  rw [pre_map]
  induction n with
  | zero => rfl
  | succ n ih => rw [List.range_succ, List.map_append, ih, List.replicate_succ']; rfl
theorem all_true (n : Nat) : (List.replicate n true).all id = true := by simp
theorem bls (n : Nat) : List.replicate n (V.bl true) = (List.replicate n true).map V.bl := by simp
end
/-! ### comprehensions whose items are new lists -/
section
variable {K : PySem.W.Frag} {H : Hp} {σ : L2.St} {te : TE} {vs : List Nat} {j : Nat} {Q : VK}
/-- lists that stand at the items of a list: what is at each place -/
def Hold (H : Hp) (acc : List V) (n : Nat) (ys : Nat → List V) : Prop := acc.length = n ∧ ∀ k, k < n → ∃ p, acc[k]? = some (.ref p) ∧ H p = some (.lst (ys k))
theorem Hold.mono {H H' : Hp} {acc : List V} {n : Nat} {ys : Nat → List V} (h : Hold H acc n ys) (s : Same H H') : Hold H' acc n ys :=
  ⟨h.1, fun k hk => let ⟨p, e, hp⟩ := h.2 k hk; ⟨p, e, s _ _ hp⟩⟩
theorem Hold.snoc {acc : List V} {n : Nat} {ys : Nat → List V} {p : Addr} (h : Hold H acc n ys) (hp : H p = some (.lst (ys n))) : Hold H (acc ++ [.ref p]) (n + 1) ys := by
  refine ⟨by rw [List.length_append, h.1]; rfl, fun k hk => ?_⟩
  by_cases c : k < n
  · obtain ⟨q, e, hq⟩ := h.2 k c
    exact ⟨q, by rw [List.getElem?_append_left (by rw [h.1]; exact c)]; exact e, hq⟩
  · have e : k = n := by omega
    subst e
    refine ⟨p, ?_, hp⟩
    rw [List.getElem?_append_right (by rw [h.1]; exact Nat.le_refl _), h.1, Nat.sub_self]
    rfl
theorem yes_go {σ : L2.St} {H : Hp} {f g : Hp → Prop} (h : f H) : tYes σ H (fun b H2 => if b = true then f H2 else g H2) := by
  show (if true = true then f H else g H)
  rw [if_pos rfl]
  exact h
def TurnN (te : TE) (σ : L2.St) (H : Hp) (ys : List V) : Prop := ∀ H1 (R : V → Hp → Prop), Same H H1 → (∀ p H2, H1 p = none → Same H1 H2 → H2 p = some (.lst ys) → R (.ref p) H2) → te σ H1 R
theorem lcN (J : It) (n : Nat) (xs : Nat → V) (ys : Nat → List V) (hn : n < 100000)
    (hgo : ∀ i H1, i < n → Same H H1 → J.go i H1) (hstop : ∀ H1, Same H H1 → J.stop n H1) (hyld : ∀ i H1 x H', i < n → Same H H1 → J.yld i H1 x H' → H' = H1 ∧ x = xs i)
    (hw : ∀ x, wipe ((wipe σ vs).set j (some x)) vs = wipe σ vs) (turn : ∀ i, i < n → TurnN te ((wipe σ vs).set j (some (xs i))) H (ys i))
    (fin : ∀ D acc H1, H D = none → Same H H1 → H1 D = some (.lst acc) → Hold (del D H1) acc n ys → Q (.ref D) H1) :
    ∀ D, H D = none → ∃ W : Nat → Nat → Hp → Prop, (∃ m, W 0 m (upd H D (.lst []))) ∧ ∀ i m H, W i m H →
      (J.stop i H ∧ Q (.ref D) H) ∨ (J.go i H ∧ ∃ Nx : Hp → Prop, (∀ H', Nx H' → ∃ m', m' < m ∧ W (i + 1) m' H') ∧ ∀ x H', J.yld i H x H' → gName j x (wipe σ vs) H' fun σ2 H2 => wipe σ2 vs = wipe σ vs ∧ tYes σ2 H2 fun b H3 =>
        if b = true then te σ2 H3 fun y H4 => ∃ acc, H4 D = some (.lst acc) ∧ acc.length < sizeLine ∧ Nx (upd H4 D (.lst (acc ++ [y]))) else Nx H3) := by
  intro D hD
  refine ⟨fun i m H1 => m = n - i ∧ i ≤ n ∧ Same H H1 ∧ ∃ acc, H1 D = some (.lst acc) ∧ Hold (del D H1) acc i ys, ⟨n, rfl, Nat.zero_le _, same_upd hD, [], upd_same, rfl, fun k hk => absurd hk (Nat.not_lt_zero k)⟩, ?_⟩
  rintro i m H1 ⟨rfl, hi, s1, acc, h1, hold⟩
  by_cases c : i < n
  · refine .inr ⟨hgo i H1 c s1, fun H2 => Same H H2 ∧ ∃ acc, H2 D = some (.lst acc) ∧ Hold (del D H2) acc (i + 1) ys, fun H2 h2 => ⟨n - (i + 1), by omega, rfl, c, h2.1, h2.2⟩, fun x H' hy => ?_⟩
    obtain ⟨rfl, rfl⟩ := hyld i H1 x H' c s1 hy
    refine ⟨hw _, ?_⟩
    refine yes_go ?_
    refine turn i c H' _ s1 (fun p H2 np s2 hp => ?_)
    refine ⟨acc, s2 D _ h1, szt (by rw [hold.1]; omega), same_put (s1.trans s2) hD, acc ++ [.ref p], upd_same, ?_⟩
    have ne : p ≠ D := fun e => by
      rw [e, h1] at np
      cases np
    have hdel : Same (del D H2) (del D (upd H2 D (.lst (acc ++ [.ref p])))) := keep_upd
    refine ((hold.mono (del_mono s2)).snoc ?_).mono hdel
    rw [del_ne ne]
    exact hp
  · have e : i = n := by omega
    subst e
    exact .inl ⟨hstop H1 s1, fin D acc H1 hD s1 h1 hold⟩
theorem cTN {tl : TE} {a : Addr} {xs : List V} (ys : Nat → List V) (htl : ∀ R : VK, R (.ref a) H → tl σ H R) (hx : SqT K H a xs) (hn : xs.length < 100000)
    (hw : ∀ x, wipe ((wipe σ vs).set j (some x)) vs = wipe σ vs) (turn : ∀ i x, xs[i]? = some x → TurnN te ((wipe σ vs).set j (some x)) H (ys i))
    (fin : ∀ D acc H1, H D = none → Same H H1 → H1 D = some (.lst acc) → Hold (del D H1) acc xs.length ys → Q (.ref D) H1) : tLc (iTup K tl) (gName j) tYes te vs σ H Q := by
  refine htl _ ⟨a, rfl, ⟨xs, hx⟩, ?_⟩
  refine lcN (Itt K a) xs.length (fun i => xs.getD i .non) ys hn (fun i H1 hi s => ?_) (fun H1 s => ?_) (fun i H1 x H' hi s hy => ?_) hw (fun i hi => ?_) fin
  · exact ⟨xs, xs[i], sqT_mono s hx, by simp [hi]⟩
  · exact ⟨xs, sqT_mono s hx, Nat.le_refl _⟩
  · obtain ⟨e, y⟩ := hy
    exact ⟨e, (getD_of (y xs (sqT_mono s hx))).symm⟩
  · have h : xs[i]? = some (xs.getD i .non) := by
      rw [List.getElem?_eq_getElem hi, List.getD_eq_getElem?_getD, List.getElem?_eq_getElem hi]
      rfl
    exact turn i _ h
end
/-! ### openers -/
section
variable {te ta : TE} {D : Ends} {σ : L2.St} {H : Hp} {Q : VK} {r : List V → Hp → VK → Prop} {i : Nat}
theorem g_ret (h : te σ H D.rt) : tRet te D σ H := h
theorem g_asg (h : te σ H fun x H1 => D.nx (σ.set i (some x)) H1) : tAsg te (gName i) D σ H := h
theorem g_cb (h : ta σ H fun x H1 => r [x] H1 Q) : tCB r (tCons ta tNil) σ H Q := h
theorem g_andV {tb : TE} (h : ta σ H fun x H1 => ∃ c, x = .bl c ∧ if c = true then tb σ H1 Q else Q (.bl false) H1) : tAndV ta tb σ H Q := h
theorem g_via {K : PySem.W.Frag} {d : PyData} (h : ∀ Q' : VK, (∀ vf H2, Same H H2 → Dp K H2 vf d → Q' vf H2) → te σ H Q') (rest : ∀ vf H2, Same H H2 → Dp K H2 vf d → Q vf H2) : te σ H Q := h Q rest
theorem g_arg {f : List V → Hp → Prop} (h : te σ H fun x H1 => f [x] H1) : tCons te tNil σ H f := h
theorem g_next (h : D.nx σ H) : tNext D σ H := h
theorem g_seq {t u : TS} (h : t { D with nx := u D } σ H) : tSeq t u D σ H := h
end
end K6

set_option Elab.async false
set_option linter.all false
set_option maxRecDepth 100000
set_option maxHeartbeats 4000000
namespace K6
open PySem PySem.Spec PyProof.Rows L2 Rw
variable {P : Program} {w : World} {K : PySem.W.Frag} {mg : Str → Option Value} {base : Heap} {A : Ad} {fd : Fds}
/-! ### data in the heap -/
theorem _root_.Rw.Rp.mono {H H' : Hp} {v : V} {d : PyData} (s : Same H H') (h : Rp K H v d) : Rp K H' v d := Rp.ext (fun a o e _ => s a o e) d h
theorem rps_mono {H H' : Hp} {vs : List V} {ds : List PyData} (s : Same H H') (h : RpAll K H vs ds) : RpAll K H' vs ds := RpAll.ext (fun a o e _ => s a o e) ds h
theorem rps_len {H : Hp} : ∀ {vs : List V} {ds : List PyData}, RpAll K H vs ds → vs.length = ds.length
  | _, [], h => by cases h; rfl
  | _, d :: ds, h => by
    cases h with
    | cons a b => rw [List.length_cons, List.length_cons, rps_len b]
theorem rps_get {H : Hp} : ∀ {vs : List V} {ds : List PyData}, RpAll K H vs ds → ∀ {i : Nat} {x : V}, vs[i]? = some x → ∃ d, ds[i]? = some d ∧ Rp K H x d
  | [], _, h, i, x, e => by cases e
  | v :: vs, [], h, _, _, _ => by cases h
  | v :: vs, d :: ds, h, i, x, e => by
    cases h with
    | cons a b =>
      cases i with
      | zero =>
        have e : some v = some x := e
        obtain rfl := Option.some.inj e
        exact ⟨d, rfl, a⟩
      | succ i => exact rps_get (vs := vs) (ds := ds) b (i := i) (x := x) e
theorem rps_app {H : Hp} : ∀ {vs us : List V} {ds es : List PyData}, RpAll K H vs ds → RpAll K H us es → RpAll K H (vs ++ us) (ds ++ es)
  | _, _, [], _, h, g => by cases h; exact g
  | _, _, d :: ds, _, h, g => by
    cases h with
    | cons a b => exact .cons a (rps_app b g)
theorem _root_.Rw.Rp.ty {H : Hp} {v : V} {d : PyData} (h : Rp K H v d) : TyX K H v (.type (tyS d)) := by
  cases h with
  | non => exact .base .non
  | bl b => exact .base (.bl b)
  | int i => exact .base (.int i)
  | str x => exact .base (.str x)
  | lst n a b => exact .base (.lst a)
  | tup a b =>
    rcases a with (a | ⟨o, a⟩) | a
    · exact .base (.tup a)
    · exact .fTuple a
    · obtain ⟨o, us, n, h1, h2, _⟩ := a
      exact .kTuple h1 h2
  | dct a => exact .base (.dK a)
theorem kitT : ∀ d : PyData, PySem.W.kitOne K (.type (tyS d)) (.type "tuple") = some (isTu d)
  | .none => (show _ = some false from kit_ty (a := "NoneType") (b := "tuple") (by decide +kernel))
  | .bool _ => (show _ = some false from kit_ty (a := "bool") (b := "tuple") (by decide +kernel))
  | .int _ => (show _ = some false from kit_ty (a := "int") (b := "tuple") (by decide +kernel))
  | .str _ => (show _ = some false from kit_ty (a := "str") (b := "tuple") (by decide +kernel))
  | .list _ => (show _ = some false from kit_ty (a := "list") (b := "tuple") (by decide +kernel))
  | .tuple _ => (show _ = some true from kit_ty (a := "tuple") (b := "tuple") (by decide +kernel))
  | .dict _ => (show _ = some false from kit_ty (a := "dict") (b := "tuple") (by decide +kernel))
def isN : PyData → Bool
  | .int _ | .bool _ => true
  | _ => false
def isBl : PyData → Bool
  | .bool _ => true
  | _ => false
theorem kitN : ∀ d : PyData, PySem.W.kitOne K (.type (tyS d)) (.type "int") = some (isN d)
  | .none => (show _ = some false from kit_ty (a := "NoneType") (b := "int") (by decide +kernel))
  | .bool _ => (show _ = some true from kit_ty (a := "bool") (b := "int") (by decide +kernel))
  | .int _ => (show _ = some true from kit_ty (a := "int") (b := "int") (by decide +kernel))
  | .str _ => (show _ = some false from kit_ty (a := "str") (b := "int") (by decide +kernel))
  | .list _ => (show _ = some false from kit_ty (a := "list") (b := "int") (by decide +kernel))
  | .tuple _ => (show _ = some false from kit_ty (a := "tuple") (b := "int") (by decide +kernel))
  | .dict _ => (show _ = some false from kit_ty (a := "dict") (b := "int") (by decide +kernel))
theorem kitBl : ∀ d : PyData, PySem.W.kitOne K (.type (tyS d)) (.type "bool") = some (isBl d)
  | .none => (show _ = some false from kit_ty (a := "NoneType") (b := "bool") (by decide +kernel))
  | .bool _ => (show _ = some true from kit_ty (a := "bool") (b := "bool") (by decide +kernel))
  | .int _ => (show _ = some false from kit_ty (a := "int") (b := "bool") (by decide +kernel))
  | .str _ => (show _ = some false from kit_ty (a := "str") (b := "bool") (by decide +kernel))
  | .list _ => (show _ = some false from kit_ty (a := "list") (b := "bool") (by decide +kernel))
  | .tuple _ => (show _ = some false from kit_ty (a := "tuple") (b := "bool") (by decide +kernel))
  | .dict _ => (show _ = some false from kit_ty (a := "dict") (b := "bool") (by decide +kernel))
theorem isI_of (d : PyData) : isI d = (isN d && !isBl d) := by cases d <;> rfl
theorem tup_or {H : Hp} {v : V} {d : PyData} (h : Rp K H v d) : (∃ a xs ds, v = .ref a ∧ d = .tuple ds ∧ SqT K H a xs ∧ RpAll K H xs ds) ∨ isTu d = false := by
  cases h with
  | tup a b => exact .inl ⟨_, _, _, rfl, rfl, a, b⟩
  | _ => exact .inr rfl
theorem non_of {H : Hp} {v : V} {d : PyData} (h : Rp K H v d) : decide (v = .non) = (match d with | .none => true | _ => false) := by
  cases h with
  | non => exact decide_eq_true rfl
  | _ => exact decide_eq_false (fun z => by cases z)
theorem pre_all {α : Type} (xs : List V) (ds : List α) (dflt : α) (f : α → V) (h : xs.length = ds.length) : pre (fun i => [f (ds.getD i dflt)]) xs.length = ds.map f := by
  rw [pre_map, h]
  apply List.ext_getElem
  · simp
  · intro i h1 h2
    simp only [List.length_map, List.length_range] at h1
    simp [List.getD_eq_getElem?_getD, h1]
theorem all_bls {α : Type} (ds : List α) (f : α → Bool) : ds.map (fun d => V.bl (f d)) = (ds.map f).map V.bl := by rw [List.map_map]; rfl
theorem all_id {α : Type} (ds : List α) (f : α → Bool) : (ds.map f).all id = ds.all f := by rw [List.all_map]; rfl
theorem rps_of {H : Hp} {f : α → PyData} (hf : ∀ (v : V) (x : α), Dp K H v (f x) → Rp K H v (f x)) : ∀ {vs : List V} {xs : List α}, DpAll K H vs (xs.map f) → RpAll K H vs (xs.map f)
  | [], [], _ => .nil
  | v :: vs, x :: xs, h => by
    cases h with
    | cons a b => exact .cons (hf v x a) (rps_of hf b)
  | [], x :: xs, h => by cases h
  | v :: vs, [], h => by cases h
/-! ### what is asked of values -/
def spIsInt (K : PySem.W.Frag) : Sp := fun vs H Q _ => ∃ v d, vs = [v] ∧ Rp K H v d ∧ Q (.bl (isI d)) H
theorem ok_is_integer (T : Txt K mg A) (U : Funs K A fd) : FnOk P w K mg base CX0 1 A.is_integer fd.is_integer p_is_integer (spIsInt K) := by
  refine U.F_is_integer.ok sc_is_integer (fun vs H Q E h => ?_) (fun cdv A0 outer s H vs Q E hr h => ?_)
  · obtain ⟨v, d, rfl, _⟩ := h
    rfl
  · have hu := hu_of hr
    obtain ⟨v, d, rfl, h, q⟩ := h
    refine ⟨_, (pss_one (ps_ret (pe_and (pe_callB (w_isi (K := K)) (by rfl) T.b_isinstance (by decide +kernel) (pa_cons (pv 0) (pa_cons (pe_bltn (v := .ty "int") (u := .type "int") (by rfl) T.b_int (by decide +kernel) rfl) pa_nil))) (pe_one (pe_not (pe_callB (w_isi (K := K)) (by rfl) T.b_isinstance (by decide +kernel) (pa_cons (pv 0) (pa_cons (pe_bltn (v := .ty "bool") (u := .type "bool") (by rfl) T.b_bool (by decide +kernel) rfl) pa_nil)))))))), ?_⟩
    rw [isI_of] at q
    refine ⟨_, rfl, v, .ty "int", .type (tyS d), .type "int", isN d, rfl, .ty _, h.ty, kitN d, isN d, rfl, ?_⟩
    cases e : isN d with
    | false =>
      rw [e] at q
      exact iteF q
    | true =>
      rw [e] at q
      refine iteT ?_
      refine ⟨_, rfl, v, .ty "bool", .type (tyS d), .type "bool", isBl d, rfl, .ty _, h.ty, kitBl d, isBl d, rfl, ?_⟩
      exact q
def spBetween (K : PySem.W.Frag) : Sp := fun vs H Q _ => ∃ v d, ∃ lo hi : Int, vs = [v, .int lo, .int hi] ∧ Rp K H v d ∧ Q (.bl (btwD lo hi d)) H
theorem ok_is_between (T : Txt K mg A) (U : Funs K A fd) : FnOk P w K mg base CX0 4 A.is_between fd.is_between p_is_between (spBetween K) := by
  have b_is_integer := U.b_is_integer
  have G_is_integer := ok_is_integer (P := P) (w := w) (base := base) T U
  refine U.F_is_between.ok sc_is_between (fun vs H Q E h => ?_) (fun cdv A0 outer s H vs Q E hr h => ?_)
  · obtain ⟨v, d, lo, hi, rfl, _⟩ := h
    rfl
  · have hu := hu_of hr
    obtain ⟨v, d, lo, hi, rfl, h, q⟩ := h
    refine ⟨_, (pss_one (ps_ret (pe_and (pe_call G_is_integer (hr.mono (by decide)) (by rfl) T.m_is_integer T.k_is_integer b_is_integer .nil pass0 (pa_cons (pv 0) pa_nil)) (pe_one (pe_chain op_le op_le (pv 1) (pv 0) (pv 2)))))), ?_⟩
    refine ⟨_, rfl, v, d, rfl, h, isI d, rfl, ?_⟩
    cases h with
    | int i =>
      refine iteT ?_
      refine ⟨_, rfl, _, rfl, lo, i, rfl, rfl, _, rfl, ?_⟩
      have q : Q (.bl (decide (lo ≤ i) && decide (i ≤ hi))) H := q
      by_cases c : lo ≤ i
      · rw [decide_eq_true c] at q ⊢
        refine iteT ?_
        exact ⟨_, rfl, i, hi, rfl, rfl, q⟩
      · rw [decide_eq_false c] at q ⊢
        exact iteF q
    | _ => exact iteF q
def spAsc (K : PySem.W.Frag) : Sp := fun vs H Q _ => ∃ (v : V) (ns : List Int), vs = [v] ∧ Dp K H v (.tuple (ns.map .int)) ∧ ns.length ≤ 50000 ∧ ∀ H', Same H H' → Q (.bl (ascB ns)) H'
theorem ok_is_ascending (T : Txt K mg A) (U : Funs K A fd) : FnOk P w K mg base CX0 1 A.is_ascending fd.is_ascending p_is_ascending (spAsc K) := by
  refine U.F_is_ascending.ok sc_is_ascending (fun vs H Q E h => ?_) (fun cdv A0 outer s H vs Q E hr h => ?_)
  · obtain ⟨v, ns, rfl, _⟩ := h
    rfl
  · have hu := hu_of hr
    obtain ⟨v, ns, rfl, hd, hl, q⟩ := h
    refine ⟨_, (pss_one (ps_ret (pe_callB (w_all (K := K) rfl) (by rfl) T.b_all (by decide +kernel) (pa_cons (pe_lc (own := [("at", 1)]) (g := gName 1) (tt := tYes) (by rfl) sc_is_ascending.nd (pi_range1 (by rfl) T.b_range (pa_cons (pe_op op_sub (pe_callB (w_len (K := K)) (by rfl) T.b_len (by decide +kernel) (pa_cons (pv 0) pa_nil)) pe_int) pa_nil)) (blkOk_by (own := [("at", 1)]) (by rfl)) (fun _ _ _ _ _ => (pg_name (i := 1) sc_is_ascending.nd rfl (Or.inl rfl))) (fun _ _ _ _ _ => pts_nil) (fun _ _ _ _ _ => (pe_cmpR op_lt (pe_ix (w_ixT (K := K)) (pv 0) (pv 1) (fun _ _ => rfl)) (pe_ix (w_ixT (K := K)) (pv 0) (pe_op op_add (pv 1) pe_int) (fun _ _ => rfl)) (nomark _)))) pa_nil)))), ?_⟩
    obtain ⟨a, xs, rfl, hx, hds⟩ := dp_tup hd
    obtain rfl := dps_ints hds
    refine g_ret (g_cb (cR (n := ns.length - 1) (m := (ns.length : Int) - 1) (fun i => [.bl (decide (ns.getD i 0 < ns.getD (i + 1) 0))]) (by omega) (by omega) (fun R r => ?_) (fun _ => Nat.le_refl 1) (by omega) (fun _ => rfl) (fun i hi => turn_yes fun H1 R s1 r => ?_) (fun D H1 _ s1 h1 => ?_)))
    · exact ⟨_, rfl, _, _, rfl, .inr ⟨_, hx, rfl⟩, _, 1, by rw [List.length_map], rfl, r⟩
    · have h1 : i < ns.length := by omega
      have h2 : i + 1 < ns.length := by omega
      have e1 : (ns.map V.int)[i]? = some (.int (ns.getD i 0)) := by simp [List.getD_eq_getElem?_getD, h1]
      have e2 : (ns.map V.int)[i + 1]? = some (.int (ns.getD (i + 1) 0)) := by simp [List.getD_eq_getElem?_getD, h2]
      refine ⟨_, rfl, _, rfl, _, _, _, _, rfl, rfl, sqT_mono s1 hx, atI_nat e1, _, rfl, _, rfl, _, _, rfl, rfl, _, _, _, _, rfl, rfl, sqT_mono s1 hx, atI_nat (j := i + 1) e2, _, _, rfl, rfl, ?_⟩
      exact r H1 (Same.refl _)
    · rw [pre_map] at h1
      refine ⟨D, (List.range (ns.length - 1)).map fun i => decide (ns.getD i 0 < ns.getD (i + 1) 0), rfl, lst_of (by rw [List.map_map]; exact h1), ?_⟩
      rw [all_id]
      exact q H1 s1
def spGoals (K : PySem.W.Frag) : Sp := fun vs H Q _ => ∃ (v : V) (d : PyData) (wd n : Int), vs = [v, .int wd, .int n] ∧ Rp K H v d ∧ wt d ≤ 50000 ∧ ∀ H', Same H H' → Q (.bl (goalsD wd n d)) H'
theorem ok_is_goals (T : Txt K mg A) (U : Funs K A fd) : FnOk P w K mg base CX0 7 A.is_goals fd.is_goals p_is_goals (spGoals K) := by
  have b_is_between := U.b_is_between
  have G_is_between := ok_is_between (P := P) (w := w) (base := base) T U
  refine U.F_is_goals.ok sc_is_goals (fun vs H Q E h => ?_) (fun cdv A0 outer s H vs Q E hr h => ?_)
  · obtain ⟨v, d, wd, n, rfl, _⟩ := h
    rfl
  · have hu := hu_of hr
    obtain ⟨v, d, wd, n, rfl, h, hw, q⟩ := h
    refine ⟨_, (pss_cons (ps_if (PW.pt (pw_or (pt_not (pt_val (pe_callB (w_isi (K := K)) (by rfl) T.b_isinstance (by decide +kernel) (pa_cons (pv 0) (pa_cons (pe_bltn (v := .ty "tuple") (u := .type "tuple") (by rfl) T.b_tuple (by decide +kernel) rfl) pa_nil))))) (pw_or1 (pt_cmpR op_ne (pe_callB (w_len (K := K)) (by rfl) T.b_len (by decide +kernel) (pa_cons (pv 0) pa_nil)) (pv 1) (nomark _))))) (pss_one (ps_ret pe_bl)) pss_nil)
       (pss_one (ps_ret (pe_callB (w_all (K := K) rfl) (by rfl) T.b_all (by decide +kernel) (pa_cons (pe_lc (own := [("goal", 3)]) (g := gName 3) (tt := tYes) (by rfl) sc_is_goals.nd (w_piT (K := K) (pv 0)) (blkOk_by (own := [("goal", 3)]) (by rfl)) (fun _ _ _ _ _ => (pg_name (i := 3) sc_is_goals.nd rfl (Or.inl rfl))) (fun _ _ _ _ _ => pts_nil) (fun _ _ _ _ _ => (pe_or (pe_cmpR op_isN (pv 3) pe_non (nomark _)) (pe_one (pe_call G_is_between (hr.mono (by decide)) (by rfl) T.m_is_between T.k_is_between b_is_between .nil pass0 (pa_cons (pv 3) (pa_cons pe_int (pa_cons (pe_op op_sub (pv 2) pe_int) pa_nil)))))))) pa_nil))))), ?_⟩
    rcases tup_or h with ⟨a, xs, ds, rfl, rfl, ha, hds⟩ | hno
    · have hl := rps_len hds
      have hx := ha
      have hz : xs.length < 100000 := by
        have := wt_len ds
        simp only [wt] at hw
        omega
      refine ⟨_, rfl, _, .ty "tuple", .type "tuple", .type "tuple", true, rfl, .ty _, h.ty, kitT (.tuple ds), true, rfl, ?_⟩
      refine iteF ?_
      refine ⟨_, rfl, _, _, rfl, .inr ⟨_, hx, rfl⟩, _, rfl, rfl, _, rfl, ?_⟩
      have eg : goalsD wd n (.tuple ds) = (decide ((ds.length : Int) = wd) && ds.all (goalD n)) := rfl
      rw [eg] at q
      by_cases c : (ds.length : Int) = wd
      · rw [hl, show decide (V.int (ds.length : Int) = V.int wd) = true from decide_eq_true (by rw [c])]
        refine iteF (g_next ?_)
        dsimp only
        refine g_ret (g_cb (cT (xs := xs) (fun i => [.bl (goalD n (ds.getD i .none))]) (fun R r => ?_) hx (fun _ => Nat.le_refl 1) hz ?_ (fun i x hi => turn_yes fun H1 R s1 r => ?_) (fun D H1 _ s1 h1 => ?_)))
        · exact ⟨_, rfl, r⟩
        · exact fun _ => rfl
        · obtain ⟨e, he, hxe⟩ := rps_get hds hi
          have ee : ds.getD i .none = e := by rw [List.getD_eq_getElem?_getD, he]; rfl
          rw [ee] at r
          refine ⟨_, rfl, rfl, decide (x = .non), rfl, ?_⟩
          rw [non_of hxe]
          have hx1 := hxe.mono s1
          cases e with
          | none => exact iteT (r H1 (Same.refl _))
          | _ =>
            refine iteF ?_
            refine ⟨_, rfl, _, rfl, _, _, rfl, rfl, x, _, _, _, rfl, hx1, ?_⟩
            exact r H1 (Same.refl _)
        · rw [pre_all xs ds .none (fun d => .bl (goalD n d)) hl] at h1
          refine ⟨D, ds.map (goalD n), rfl, lst_of (by rw [← all_bls]; exact h1), ?_⟩
          rw [all_id]
          rw [decide_eq_true c] at q
          exact q H1 s1
      · rw [hl, show decide (V.int (ds.length : Int) = V.int wd) = false from decide_eq_false fun z => c (V.int.inj z)]
        refine iteT ?_
        rw [decide_eq_false c] at q
        exact q H (Same.refl _)
    · refine ⟨_, rfl, v, .ty "tuple", .type (tyS d), .type "tuple", false, rfl, .ty _, h.ty, by rw [← hno]; exact kitT d, false, rfl, ?_⟩
      refine iteT (iteT ?_)
      have eg : goalsD wd n d = false := by unfold goalsD; rw [hno]; rfl
      rw [eg] at q
      exact q H (Same.refl _)
end K6


set_option Elab.async false
set_option linter.all false
set_option maxRecDepth 100000
set_option maxHeartbeats 4000000
namespace K6
open PySem PySem.Spec PyProof.Rows L2 Rw
variable {P : Program} {w : World} {K : PySem.W.Frag} {mg : Str → Option Value} {base : Heap} {A : Ad} {fd : Fds}
theorem ints_of : ∀ {ds : List PyData} {f : PyData → Bool}, (∀ d, f d = true → isI d = true) → ds.all f = true → ds = (ds.map intD).map PyData.int
  | [], _, _, _ => rfl
  | d :: ds, f, hf, h => by
    rw [List.all_cons, Bool.and_eq_true] at h
    rw [List.map_cons, List.map_cons, ← ints_of hf h.2]
    have := hf d h.1
    cases d <;> first | rfl | cases this
theorem btw_int {lo hi : Int} (d : PyData) (h : btwD lo hi d = true) : isI d = true := by cases d <;> first | rfl | cases h
theorem noDict_ints : ∀ ns : List Int, PyData.hasDictAll (ns.map PyData.int) = false
  | [] => rfl
  | n :: ns => by
    rw [List.map_cons]
    simp only [PyData.hasDictAll, PyData.hasDict, Bool.false_or]
    exact noDict_ints ns
def spStands (K : PySem.W.Frag) : Sp := fun vs H Q _ => ∃ (v : V) (d : PyData) (n : Int), vs = [v, .int n] ∧ Rp K H v d ∧ wt d ≤ 50000 ∧ ∀ H', Same H H' → Q (.bl (standsD n d)) H'
theorem ok_is_stands (T : Txt K mg A) (U : Funs K A fd) : FnOk P w K mg base CX0 7 A.is_stands fd.is_stands p_is_stands (spStands K) := by
  have b_is_ascending := U.b_is_ascending
  have G_is_ascending := ok_is_ascending (P := P) (w := w) (base := base) T U
  have b_is_between := U.b_is_between
  have G_is_between := ok_is_between (P := P) (w := w) (base := base) T U
  refine U.F_is_stands.ok sc_is_stands (fun vs H Q E h => ?_) (fun cdv A0 outer s H vs Q E hr h => ?_)
  · obtain ⟨v, d, n, rfl, _⟩ := h
    rfl
  · have hu := hu_of hr
    obtain ⟨v, d, n, rfl, h, hw, q⟩ := h
    refine ⟨_, (pss_cons (ps_if (pt_not (pt_val (pe_callB (w_isi (K := K)) (by rfl) T.b_isinstance (by decide +kernel) (pa_cons (pv 0) (pa_cons (pe_bltn (v := .ty "tuple") (u := .type "tuple") (by rfl) T.b_tuple (by decide +kernel) rfl) pa_nil))))) (pss_one (ps_ret pe_bl)) pss_nil)
       (pss_one (ps_ret (pe_and (pe_callB (w_all (K := K) rfl) (by rfl) T.b_all (by decide +kernel) (pa_cons (pe_lc (own := [("stand", 2)]) (g := gName 2) (tt := tYes) (by rfl) sc_is_stands.nd (w_piT (K := K) (pv 0)) (blkOk_by (own := [("stand", 2)]) (by rfl)) (fun _ _ _ _ _ => (pg_name (i := 2) sc_is_stands.nd rfl (Or.inl rfl))) (fun _ _ _ _ _ => pts_nil) (fun _ _ _ _ _ => (pe_call G_is_between (hr.mono (by decide)) (by rfl) T.m_is_between T.k_is_between b_is_between .nil pass0 (pa_cons (pv 2) (pa_cons pe_int (pa_cons (pe_op op_sub (pv 1) pe_int) pa_nil)))))) pa_nil)) (pe_one (pe_call G_is_ascending (hr.mono (by decide)) (by rfl) T.m_is_ascending T.k_is_ascending b_is_ascending .nil pass0 (pa_cons (pv 0) pa_nil))))))), ?_⟩
    rcases tup_or h with ⟨a, xs, ds, rfl, rfl, ha, hds⟩ | hno
    · have hl := rps_len hds
      have hx := ha
      have h2 := wt_len ds
      have hz : xs.length < 100000 := by
        simp only [wt] at hw
        omega
      have eg : standsD n (.tuple ds) = (ds.all (btwD 0 (n - 1)) && ascB (ds.map intD)) := rfl
      rw [eg] at q
      refine ⟨_, rfl, _, .ty "tuple", .type "tuple", .type "tuple", true, rfl, .ty _, h.ty, kitT (.tuple ds), true, rfl, ?_⟩
      refine iteF (g_next ?_)
      dsimp only
      refine g_ret (g_andV (g_cb (cT (xs := xs) (fun i => [.bl (btwD 0 (n - 1) (ds.getD i .none))]) (fun R r => ?_) hx (fun _ => Nat.le_refl 1) hz ?_ (fun i x hi => turn_yes fun H1 R s1 r => ?_) (fun D H1 _ s1 h1 => ?_))))
      · exact ⟨_, rfl, r⟩
      · exact fun _ => rfl
      · obtain ⟨e, he, hxe⟩ := rps_get hds hi
        have ee : ds.getD i .none = e := by rw [List.getD_eq_getElem?_getD, he]; rfl
        rw [ee] at r
        refine ⟨_, rfl, _, rfl, _, _, rfl, rfl, x, _, _, _, rfl, hxe.mono s1, ?_⟩
        exact r H1 (Same.refl _)
      · rw [pre_all xs ds .none (fun d => .bl (btwD 0 (n - 1) d)) hl] at h1
        refine ⟨D, ds.map (btwD 0 (n - 1)), rfl, lst_of (by rw [← all_bls]; exact h1), ?_⟩
        rw [all_id]
        refine ⟨_, rfl, ?_⟩
        cases c : ds.all (btwD 0 (n - 1)) with
        | false =>
          rw [c] at q
          exact iteF (q H1 s1)
        | true =>
          rw [c] at q
          refine iteT ?_
          have ei := ints_of btw_int c
          have nd : PyData.hasDict (.tuple ds) = false := by
            simp only [PyData.hasDict]
            rw [ei]
            exact noDict_ints _
          have dp := dp_mono s1 _ _ (Rp.dp _ h nd)
          rw [ei] at dp
          exact ⟨_, rfl, _, ds.map intD, rfl, dp, by simp only [wt] at hw; rw [List.length_map]; omega, fun H2 s2 => q H2 (s1.trans s2)⟩
    · refine ⟨_, rfl, v, .ty "tuple", .type (tyS d), .type "tuple", false, rfl, .ty _, h.ty, by rw [← hno]; exact kitT d, false, rfl, ?_⟩
      refine iteT ?_
      have eg : standsD n d = false := by unfold standsD; rw [hno]; rfl
      rw [eg] at q
      exact q H (Same.refl _)
theorem all_false {α : Type} {f : α → Bool} {ds : List α} {i : Nat} {d : α} (h : ds[i]? = some d) (e : f d = false) : ds.all f = false := by
  rw [List.all_eq_false]
  exact ⟨d, List.mem_of_getElem? h, by rw [e]; exact Bool.false_ne_true⟩
def spArrows (K : PySem.W.Frag) : Sp := fun vs H Q _ => ∃ (v : V) (d : PyData) (wd : Int), vs = [v, .int wd] ∧ Rp K H v d ∧ wt d ≤ 50000 ∧ ∀ H', Same H H' → Q (.bl (arrowsD wd d)) H'
theorem ok_is_arrows (T : Txt K mg A) (U : Funs K A fd) : FnOk P w K mg base CX0 10 A.is_arrows fd.is_arrows p_is_arrows (spArrows K) := by
  have b_is_goals := U.b_is_goals
  have G_is_goals := ok_is_goals (P := P) (w := w) (base := base) T U
  refine U.F_is_arrows.ok sc_is_arrows (fun vs H Q E h => ?_) (fun cdv A0 outer s H vs Q E hr h => ?_)
  · obtain ⟨v, d, wd, rfl, _⟩ := h
    rfl
  · have hu := hu_of hr
    obtain ⟨v, d, wd, rfl, h, hw, q⟩ := h
    refine ⟨_, (pss_cons (ps_if (PW.pt (pw_or (pt_not (pt_val (pe_callB (w_isi (K := K)) (by rfl) T.b_isinstance (by decide +kernel) (pa_cons (pv 0) (pa_cons (pe_bltn (v := .ty "tuple") (u := .type "tuple") (by rfl) T.b_tuple (by decide +kernel) rfl) pa_nil))))) (pw_or1 (pt_not (pt_chain op_le op_le pe_int (pe_callB (w_len (K := K)) (by rfl) T.b_len (by decide +kernel) (pa_cons (pv 0) pa_nil)) (pe_glob (v := .int 200) (by rfl) T.c_MOST_STANDS.choose_spec ⟨_, rfl⟩)))))) (pss_one (ps_ret pe_bl)) pss_nil)
       (pss_one (ps_ret (pe_callB (w_all (K := K) rfl) (by rfl) T.b_all (by decide +kernel) (pa_cons (pe_lc (own := [("goals", 2)]) (g := gName 2) (tt := tYes) (by rfl) sc_is_arrows.nd (w_piT (K := K) (pv 0)) (blkOk_by (own := [("goals", 2)]) (by rfl)) (fun _ _ _ _ _ => (pg_name (i := 2) sc_is_arrows.nd rfl (Or.inl rfl))) (fun _ _ _ _ _ => pts_nil) (fun _ _ _ _ _ => (pe_call G_is_goals (hr.mono (by decide)) (by rfl) T.m_is_goals T.k_is_goals b_is_goals .nil pass0 (pa_cons (pv 2) (pa_cons (pv 1) (pa_cons (pe_callB (w_len (K := K)) (by rfl) T.b_len (by decide +kernel) (pa_cons (pv 0) pa_nil)) pa_nil)))))) pa_nil))))), ?_⟩
    rcases tup_or h with ⟨a, xs, ds, rfl, rfl, ha, hds⟩ | hno
    · have hl := rps_len hds
      have hx := ha
      have h2 := wt_len ds
      have hz : xs.length < 100000 := by
        simp only [wt] at hw
        omega
      have eg : arrowsD wd (.tuple ds) = (decide (1 ≤ ds.length) && decide (ds.length ≤ 200) && ds.all (goalsD wd ds.length)) := rfl
      rw [eg] at q
      refine ⟨_, rfl, _, .ty "tuple", .type "tuple", .type "tuple", true, rfl, .ty _, h.ty, kitT (.tuple ds), true, rfl, ?_⟩
      refine iteF ?_
      refine ⟨_, rfl, _, _, rfl, .inr ⟨_, hx, rfl⟩, _, _, rfl, rfl, _, rfl, ?_⟩
      by_cases c1 : 1 ≤ ds.length
      · rw [decide_eq_true (show (1 : Int) ≤ (xs.length : Int) by omega)]
        rw [decide_eq_true c1, Bool.true_and] at q
        refine iteT ?_
        refine ⟨_, _, rfl, rfl, _, rfl, ?_⟩
        by_cases c2 : ds.length ≤ 200
        · rw [decide_eq_true (show (xs.length : Int) ≤ 200 by omega)]
          rw [decide_eq_true c2, Bool.true_and] at q
          refine iteF (g_next ?_)
          dsimp only
          refine g_ret (g_cb (cT (xs := xs) (fun i => [.bl (goalsD wd ds.length (ds.getD i .none))]) (fun R r => ?_) hx (fun _ => Nat.le_refl 1) hz ?_ (fun i x hi => turn_yes fun H1 R s1 r => ?_) (fun D H1 _ s1 h1 => ?_)))
          · exact ⟨_, rfl, r⟩
          · exact fun _ => rfl
          · obtain ⟨e, he, hxe⟩ := rps_get hds hi
            have ee : ds.getD i .none = e := by rw [List.getD_eq_getElem?_getD, he]; rfl
            rw [ee] at r
            have we := wt_mem (List.mem_of_getElem? he)
            refine ⟨_, rfl, _, rfl, _, rfl, _, _, rfl, .inr ⟨_, sqT_mono s1 hx, rfl⟩, ?_⟩
            exact ⟨x, e, wd, ds.length, by rw [hl] <;> rfl, hxe.mono s1, by simp only [wt] at hw; omega, r⟩
          · rw [pre_all xs ds .none (fun d => .bl (goalsD wd ds.length d)) hl] at h1
            refine ⟨D, ds.map (goalsD wd ds.length), rfl, lst_of (by rw [← all_bls]; exact h1), ?_⟩
            rw [all_id]
            exact q H1 s1
        · rw [decide_eq_false (show ¬ (xs.length : Int) ≤ 200 by omega)]
          rw [decide_eq_false c2, Bool.false_and] at q
          exact iteT (q H (Same.refl _))
      · rw [decide_eq_false (show ¬ (1 : Int) ≤ (xs.length : Int) by omega)]
        rw [decide_eq_false c1, Bool.false_and, Bool.false_and] at q
        exact iteF ⟨_, rfl, iteT (q H (Same.refl _))⟩
    · refine ⟨_, rfl, v, .ty "tuple", .type (tyS d), .type "tuple", false, rfl, .ty _, h.ty, by rw [← hno]; exact kitT d, false, rfl, ?_⟩
      refine iteT (iteT ?_)
      have eg : arrowsD wd d = false := by unfold arrowsD; rw [hno]; rfl
      rw [eg] at q
      exact q H (Same.refl _)
/-- an error with what was passed -/
def OutG (x : Addr) (H : Hp) (v : V) (E : XK) : Prop := ∀ H' d, Same H H' → H' d = none → E (.ref x) (some d) (upd H' d (.xd [("given", v)]))
def spSigns (K : PySem.W.Frag) (A : Ad) : Sp := fun vs H Q E => ∃ v d, vs = [v] ∧ Rp K H v d ∧ (btwD 1 8 d = true → Q .non H) ∧ (btwD 1 8 d = false → OutG A.x_InvalidSigns H v E)
theorem okX_check_signs (T : Txt K mg A) (U : Funs K A fd) : FnOk P w K mg base (L2.CX P w) 7 A.check_signs fd.check_signs p_check_signs (spSigns K A) := by
  have b_is_between := U.b_is_between
  have G_is_between := ok_is_between (P := P) (w := w) (base := base) T U
  refine U.F_check_signs.okX sc_check_signs (fun vs H Q E h => ?_) (fun cdv A0 outer s H vs Q E hr h => ?_)
  · obtain ⟨v, d, rfl, _⟩ := h
    rfl
  · have hu := hu_of hr
    obtain ⟨v, d, rfl, h, q, o⟩ := h
    refine ⟨_, (pss_one (ps_if (pt_not (pt_val (pe_call G_is_between (hr.mono (by decide)) (by rfl) T.m_is_between T.k_is_between b_is_between .nil pass0 (pa_cons (pv 0) (pa_cons pe_int (pa_cons (pe_glob (v := .int 8) (by rfl) T.c_MOST_SIGNS.choose_spec ⟨_, rfl⟩) pa_nil)))))) (pss_one (ps_raise rfl (takes_of rfl rfl rfl rfl) (pmk_given T.x_InvalidSigns hr (pa_cons (pv 0) pa_nil)))) pss_nil)), ?_⟩
    refine ⟨_, rfl, v, d, 1, 8, rfl, h, ?_⟩
    cases c : btwD 1 8 d with
    | true => exact ⟨_, rfl, iteF (q c)⟩
    | false =>
      refine ⟨_, rfl, iteT ?_⟩
      exact ⟨_, rfl, _, rfl, fun e he => o c H e (Same.refl _) he⟩
theorem ok_check_signs (T : Txt K mg A) (U : Funs K A fd) : FnOk P w K mg base CX0 7 A.check_signs fd.check_signs p_check_signs (calm (spSigns K A)) := fnCalm (okX_check_signs T U)
end K6


set_option Elab.async false
set_option linter.all false
set_option maxRecDepth 100000
set_option maxHeartbeats 4000000
namespace K6
open PySem PySem.Spec PyProof.Rows L2 Rw
variable {P : Program} {w : World} {K : PySem.W.Frag} {mg : Str → Option Value} {base : Heap} {A : Ad} {fd : Fds}
def dRow (r : List (Option Nat)) : PyData := .tuple (r.map dO)
def dTab (t : List (List (Option Nat))) : PyData := .tuple (t.map dRow)
def dNats (ns : List Nat) : PyData := .tuple (ns.map fun (k : Nat) => .int (k : Int))
def Asc (ns : List Int) : Prop := ∀ (i : Nat) (x y : Int), ns[i]? = some x → ns[i + 1]? = some y → x < y
/-- arrows of so many signs -/
structure GoodT (w : Nat) (tab : List (List (Option Nat))) : Prop where
  w8 : w ≤ 8
  n1 : 1 ≤ tab.length
  n2 : tab.length ≤ 200
  rows : ∀ row ∈ tab, row.length = w ∧ ∀ g, some g ∈ row → g < tab.length
structure GoodE (n : Nat) (ends : List Nat) : Prop where
  asc : Asc (ends.map Int.ofNat)
  lt : ∀ g ∈ ends, g < n
theorem goal_opt {n : Nat} : ∀ (d : PyData), goalD n d = true → ∃ o : Option Nat, d = dO o ∧ ∀ k, o = some k → k < n
  | .none, _ => ⟨none, rfl, fun k h => by cases h⟩
  | .int i, h => by
    have h : (decide ((0 : Int) ≤ i) && decide (i ≤ (n : Int) - 1)) = true := h
    rw [Bool.and_eq_true, decide_eq_true_eq, decide_eq_true_eq] at h
    refine ⟨some i.toNat, ?_, fun k hk => ?_⟩
    · show PyData.int i = PyData.int (i.toNat : Int)
      rw [Int.toNat_of_nonneg h.1]
    · have := Option.some.inj hk
      omega
  | .bool _, h => by cases h
  | .str _, h => by cases h
  | .list _, h => by cases h
  | .tuple _, h => by cases h
  | .dict _, h => by cases h
theorem goals_row {n : Nat} : ∀ (ds : List PyData), ds.all (goalD n) = true → ∃ row : List (Option Nat), ds = row.map dO ∧ ∀ g, some g ∈ row → g < n
  | [], _ => ⟨[], rfl, fun g h => by cases h⟩
  | d :: ds, h => by
    rw [List.all_cons, Bool.and_eq_true] at h
    obtain ⟨o, rfl, ho⟩ := goal_opt d h.1
    obtain ⟨row, rfl, hr⟩ := goals_row ds h.2
    exact ⟨o :: row, rfl, fun g hg => (List.mem_cons.mp hg).elim (fun e => ho g e.symm) (hr g)⟩
theorem isTu_els {d : PyData} (h : isTu d = true) : d = .tuple (elsD d) := by cases d <;> first | rfl | cases h
theorem rows_tab {wd n : Nat} : ∀ (ds : List PyData), ds.all (goalsD wd n) = true → ∃ tab : List (List (Option Nat)), ds = tab.map dRow ∧ ∀ row ∈ tab, row.length = wd ∧ ∀ g, some g ∈ row → g < n
  | [], _ => ⟨[], rfl, fun r h => by cases h⟩
  | d :: ds, h => by
    rw [List.all_cons, Bool.and_eq_true] at h
    have h1 := h.1
    unfold goalsD at h1
    rw [Bool.and_eq_true, Bool.and_eq_true, decide_eq_true_eq] at h1
    obtain ⟨row, er, hr⟩ := goals_row _ h1.2.2
    obtain ⟨tab, rfl, ht⟩ := rows_tab ds h.2
    refine ⟨row :: tab, ?_, fun r hm => ?_⟩
    · rw [List.map_cons, isTu_els h1.1, er]
      rfl
    · rcases List.mem_cons.mp hm with rfl | hm
      · refine ⟨?_, hr⟩
        have := h1.2.1
        rw [er, List.length_map] at this
        omega
      · exact ht r hm
theorem arrows_tab {wd : Nat} {d : PyData} (w8 : wd ≤ 8) (h : arrowsD wd d = true) : ∃ tab, d = dTab tab ∧ GoodT wd tab := by
  unfold arrowsD at h
  rw [Bool.and_eq_true, Bool.and_eq_true, Bool.and_eq_true, decide_eq_true_eq, decide_eq_true_eq] at h
  obtain ⟨tab, et, ht⟩ := rows_tab _ h.2.2
  have hl : (elsD d).length = tab.length := by rw [et, List.length_map]
  refine ⟨tab, by rw [isTu_els h.1, et]; rfl, ⟨w8, by omega, by omega, fun row hr => ?_⟩⟩
  have := ht row hr
  rw [hl] at this
  exact this
theorem btw_nats {n : Nat} : ∀ (ds : List PyData), ds.all (btwD 0 ((n : Int) - 1)) = true → ∃ ends : List Nat, ds = ends.map (fun (k : Nat) => PyData.int (k : Int)) ∧ ∀ g ∈ ends, g < n
  | [], _ => ⟨[], rfl, fun g h => by cases h⟩
  | d :: ds, h => by
    rw [List.all_cons, Bool.and_eq_true] at h
    obtain ⟨ends, rfl, he⟩ := btw_nats ds h.2
    cases d with
    | int i =>
      have h1 : (decide ((0 : Int) ≤ i) && decide (i ≤ (n : Int) - 1)) = true := h.1
      rw [Bool.and_eq_true, decide_eq_true_eq, decide_eq_true_eq] at h1
      refine ⟨i.toNat :: ends, ?_, fun g hg => ?_⟩
      · rw [List.map_cons, Int.toNat_of_nonneg h1.1]
      · rcases List.mem_cons.mp hg with rfl | hg
        · omega
        · exact he g hg
    | _ => exact absurd h.1 (by intro z; cases z)
theorem asc_iff {ns : List Int} : ascB ns = true ↔ Asc ns := by
  unfold ascB Asc
  rw [List.all_eq_true]
  constructor
  · intro h i x y hx hy
    have hi : i + 1 < ns.length := (List.getElem?_eq_some_iff.mp hy).1
    have := of_decide_eq_true (h i (List.mem_range.mpr (by omega)))
    rw [List.getD_eq_getElem?_getD, List.getD_eq_getElem?_getD, hx, hy] at this
    exact this
  · intro h i hi
    have hi := List.mem_range.mp hi
    refine decide_eq_true (h i _ _ ?_ ?_)
    · rw [List.getD_eq_getElem?_getD, List.getElem?_eq_getElem (by omega)]; rfl
    · rw [List.getD_eq_getElem?_getD, List.getElem?_eq_getElem (by omega)]; rfl
theorem stands_ends {n : Nat} {d : PyData} (h : standsD n d = true) : ∃ ends, d = dNats ends ∧ GoodE n ends := by
  unfold standsD at h
  rw [Bool.and_eq_true, Bool.and_eq_true] at h
  obtain ⟨ends, ee, he⟩ := btw_nats _ h.2.1
  refine ⟨ends, by rw [isTu_els h.1, ee]; rfl, ⟨?_, he⟩⟩
  have a := asc_iff.mp h.2.2
  rw [ee, List.map_map] at a
  exact a
theorem tab_stands {n : Nat} {ends : List Nat} (ge : GoodE n ends) : standsD n (dNats ends) = true := by
  unfold standsD
  rw [Bool.and_eq_true, Bool.and_eq_true]
  refine ⟨rfl, ?_, ?_⟩
  · show (ends.map fun (k : Nat) => PyData.int (k : Int)).all _ = true
    rw [List.all_map, List.all_eq_true]
    intro g hg
    show (decide ((0 : Int) ≤ (g : Int)) && decide ((g : Int) ≤ (n : Int) - 1)) = true
    have := ge.lt g hg
    rw [decide_eq_true (by omega), decide_eq_true (by omega)]
    rfl
  · show ascB ((ends.map fun (k : Nat) => PyData.int (k : Int)).map intD) = true
    rw [List.map_map]
    exact asc_iff.mpr ge.asc
theorem tab_arrows {wd : Nat} {tab : List (List (Option Nat))} (gt : GoodT wd tab) : arrowsD wd (dTab tab) = true := by
  have n1 := gt.n1
  have n2 := gt.n2
  have el : (elsD (dTab tab)).length = tab.length := by show (tab.map dRow).length = _; rw [List.length_map]
  unfold arrowsD
  rw [el]
  rw [Bool.and_eq_true, Bool.and_eq_true, Bool.and_eq_true]
  refine ⟨rfl, ⟨decide_eq_true n1, decide_eq_true n2⟩, ?_⟩
  show (tab.map dRow).all _ = true
  rw [List.all_map, List.all_eq_true]
  intro row hr
  obtain ⟨h1, h2⟩ := gt.rows row hr
  show goalsD wd tab.length (dRow row) = true
  unfold goalsD
  rw [Bool.and_eq_true, Bool.and_eq_true]
  refine ⟨rfl, decide_eq_true (by show (((row.map dO).length : Nat) : Int) = _; rw [List.length_map]; omega), ?_⟩
  show (row.map dO).all _ = true
  rw [List.all_map, List.all_eq_true]
  intro o ho
  cases o with
  | none => rfl
  | some g =>
    show (decide ((0 : Int) ≤ (g : Int)) && decide ((g : Int) ≤ (tab.length : Int) - 1)) = true
    have := h2 g ho
    rw [decide_eq_true (by omega), decide_eq_true (by omega)]
    rfl
theorem rp_nats {H : Hp} {v : V} {ends : List Nat} (h : Dp K H v (dNats ends)) : Rp K H v (dNats ends) := by
  obtain ⟨a, xs, rfl, hx, hd⟩ := dp_tup h
  exact .tup hx (rps_of (f := fun k : Nat => PyData.int (k : Int)) (fun v x h => by cases h; exact .int _) hd)
theorem rp_row {H : Hp} (v : V) (row : List (Option Nat)) (h : Dp K H v (dRow row)) : Rp K H v (dRow row) := by
  obtain ⟨a, xs, rfl, hx, hd⟩ := dp_tup h
  refine .tup hx (rps_of (f := dO) (fun v x h => ?_) hd)
  cases x with
  | none => cases h; exact .non
  | some g => cases h; exact .int _
theorem rp_tab {H : Hp} {v : V} {tab : List (List (Option Nat))} (h : Dp K H v (dTab tab)) : Rp K H v (dTab tab) := by
  obtain ⟨a, xs, rfl, hx, hd⟩ := dp_tup h
  exact .tup hx (rps_of (f := dRow) rp_row hd)
/-! ### readers -/
theorem ks1 : ¬ (("_signs" : Str) = "_arrows") := by decide +kernel
theorem ks2 : ¬ (("_signs" : Str) = "_ends") := by decide +kernel
theorem ks3 : ¬ (("_arrows" : Str) = "_ends") := by decide +kernel
def flds (w : Nat) (a e : Addr) : List (Str × V) := putF "_ends" (.ref e) (putF "_arrows" (.ref a) (putF "_signs" (.int (w : Int)) []))
theorem flds_signs (w : Nat) (a e : Addr) : (flds w a e).lookup ("_signs" : Str) = some (.int (w : Int)) := by
  unfold flds
  rw [lookup_putF, if_neg ks2, lookup_putF, if_neg ks1, lookup_putF, if_pos rfl]
theorem flds_arrows (w : Nat) (a e : Addr) : (flds w a e).lookup ("_arrows" : Str) = some (.ref a) := by
  unfold flds
  rw [lookup_putF, if_neg ks3, lookup_putF, if_pos rfl]
theorem flds_ends (w : Nat) (a e : Addr) : (flds w a e).lookup ("_ends" : Str) = some (.ref e) := by
  unfold flds
  rw [lookup_putF, if_pos rfl]
structure RdAt (K : PySem.W.Frag) (C : Addr) (H : Hp) (p : Addr) (w : Nat) (tab : List (List (Option Nat))) (ends : List Nat) : Prop where
  ob : ∃ dx a e, H p = some (.ins C dx (flds w a e)) ∧ Dp K H (.ref a) (dTab tab) ∧ Dp K H (.ref e) (dNats ends)
theorem RdAt.mono {H H' : Hp} {C p : Addr} {w : Nat} {tab : List (List (Option Nat))} {ends : List Nat} (h : RdAt K C H p w tab ends) (s : Same H H') : RdAt K C H' p w tab ends := by
  obtain ⟨dx, a, e, h1, h2, h3⟩ := h.ob
  exact ⟨dx, a, e, s _ _ h1, dp_mono s _ _ h2, dp_mono s _ _ h3⟩
theorem noDict_opts : ∀ row : List (Option Nat), PyData.hasDictAll (row.map dO) = false
  | [] => rfl
  | o :: row => by
    rw [List.map_cons]
    simp only [PyData.hasDictAll]
    rw [noDict_opts row]
    cases o <;> rfl
theorem noDict_tab (tab : List (List (Option Nat))) : (dTab tab).hasDict = false := by
  show PyData.hasDict (.tuple (tab.map dRow)) = false
  simp only [PyData.hasDict]
  induction tab with
  | nil => rfl
  | cons r t ih =>
    rw [List.map_cons]
    simp only [PyData.hasDictAll]
    rw [ih]
    show (PyData.hasDict (.tuple (r.map dO)) || false) = false
    simp only [PyData.hasDict, noDict_opts r, Bool.or_false]
theorem noDict_nats (ns : List Nat) : (dNats ns).hasDict = false := by
  show PyData.hasDict (.tuple (ns.map fun (k : Nat) => PyData.int (k : Int))) = false
  simp only [PyData.hasDict]
  have e : (ns.map fun (k : Nat) => PyData.int (k : Int)) = (ns.map Int.ofNat).map PyData.int := by rw [List.map_map]; rfl
  rw [e]
  exact noDict_ints _
def spInit (K : PySem.W.Frag) (A : Ad) : Sp := fun vs H Q E => ∃ p dx v1 d1 v2 d2 v3 d3, vs = [.ref p, v1, v2, v3] ∧ H p = some (.ins A.C dx []) ∧ Rp K H v1 d1 ∧ Rp K H v2 d2 ∧ Rp K H v3 d3 ∧ wt d2 ≤ 50000 ∧ wt d3 ≤ 50000 ∧
  (dueD d1 d2 d3 = 0 → OutG A.x_InvalidSigns H v1 E) ∧ (dueD d1 d2 d3 = 1 → OutG A.x_InvalidArrows H v2 E) ∧ (dueD d1 d2 d3 = 2 → OutG A.x_InvalidEnds H v3 E) ∧
  (dueD d1 d2 d3 = 3 → ∀ (n : Nat) (tab : List (List (Option Nat))) (ends : List Nat) (a e : Addr), v1 = .int (n : Int) → d1 = .int (n : Int) → v2 = .ref a → v3 = .ref e → d2 = dTab tab → d3 = dNats ends → 1 ≤ n → GoodT n tab → GoodE tab.length ends →
    ∀ H', (∀ b o, H b = some o → b ≠ p → H' b = some o) → H' p = some (.ins A.C dx (flds n a e)) → Q .non H')
theorem OutG.mono {x : Addr} {H H' : Hp} {v : V} {E : XK} (s : Same H H') (h : OutG x H v E) : OutG x H' v E := fun H2 d s2 hd => h H2 d (s.trans s2) hd
theorem btw18 {v : V} {d : PyData} {H : Hp} (hr : Rp K H v d) (h : btwD 1 8 d = true) : ∃ n : Nat, v = .int (n : Int) ∧ d = .int (n : Int) ∧ 1 ≤ n ∧ n ≤ 8 := by
  cases hr with
  | int i =>
    have h1 : (decide ((1 : Int) ≤ i) && decide (i ≤ 8)) = true := h
    rw [Bool.and_eq_true, decide_eq_true_eq, decide_eq_true_eq] at h1
    refine ⟨i.toNat, ?_, ?_, by omega, by omega⟩
    · rw [Int.toNat_of_nonneg (by omega)]
    · rw [Int.toNat_of_nonneg (by omega)]
  | _ => cases h
theorem rp_tup {v : V} {ds : List PyData} {H : Hp} (hr : Rp K H v (.tuple ds)) : ∃ a xs, v = .ref a ∧ SqT K H a xs ∧ RpAll K H xs ds := by
  cases hr with
  | tup a b => exact ⟨_, _, rfl, a, b⟩
theorem okX_Reader_init (T : Txt K mg A) (U : Funs K A fd) : FnOk P w K mg base (L2.CX P w) 13 A.Reader_init fd.Reader_init p_Reader_init (spInit K A) := by
  have b_is_stands := U.b_is_stands
  have G_is_stands := ok_is_stands (P := P) (w := w) (base := base) T U
  have b_is_arrows := U.b_is_arrows
  have G_is_arrows := ok_is_arrows (P := P) (w := w) (base := base) T U
  have b_check_signs := U.b_check_signs
  have GX_check_signs := okX_check_signs (P := P) (w := w) (base := base) T U
  refine U.F_Reader_init.okX sc_Reader_init (fun vs H Q E h => ?_) (fun cdv A0 outer s H vs Q E hr h => ?_)
  · obtain ⟨p, dx, v1, d1, v2, d2, v3, d3, rfl, _⟩ := h
    rfl
  · have hu := hu_of hr
    obtain ⟨p, dx, v1, d1, v2, d2, v3, d3, rfl, hp, r1, r2, r3, w2, w3, o0, o1, o2, q⟩ := h
    refine ⟨_, (pss_cons (ps_expr (pe_call GX_check_signs (hr.mono (by decide)) (by rfl) T.m_check_signs T.k_check_signs b_check_signs .nil (passX (E := E) rfl rfl rfl rfl) (pa_cons (pv 1) pa_nil)))
       (pss_cons (ps_if (pt_not (pt_val (pe_call G_is_arrows (hr.mono (by decide)) (by rfl) T.m_is_arrows T.k_is_arrows b_is_arrows .nil pass0 (pa_cons (pv 2) (pa_cons (pv 1) pa_nil))))) (pss_one (ps_raise rfl (takes_of rfl rfl rfl rfl) (pmk_given T.x_InvalidArrows hr (pa_cons (pv 2) pa_nil)))) pss_nil)
       (pss_cons (ps_if (pt_not (pt_val (pe_call G_is_stands (hr.mono (by decide)) (by rfl) T.m_is_stands T.k_is_stands b_is_stands .nil pass0 (pa_cons (pv 3) (pa_cons (pe_callB (w_len (K := K)) (by rfl) T.b_len (by decide +kernel) (pa_cons (pv 2) pa_nil)) pa_nil))))) (pss_one (ps_raise rfl (takes_of rfl rfl rfl rfl) (pmk_given T.x_InvalidEnds hr (pa_cons (pv 3) pa_nil)))) pss_nil)
       (pss_cons (ps_fld (pv 0) (pv 1) rfl)
       (pss_cons (ps_fld (pv 0) (pv 2) rfl)
       (pss_one (ps_fld (pv 0) (pv 3) rfl))))))), ?_⟩
    unfold dueD at o0 o1 o2 q
    refine ⟨_, rfl, v1, d1, rfl, r1, fun c1 => ?_, fun c1 => o0 (by rw [if_neg (by rw [c1]; exact Bool.false_ne_true)])⟩
    rw [if_pos c1] at o1 o2 q
    obtain ⟨n, rfl, rfl, n1, n8⟩ := btw18 r1 c1
    refine ⟨_, rfl, _, rfl, v2, d2, (n : Int), rfl, r2, w2, fun H1 s1 => ?_⟩
    cases c2 : arrowsD n d2 with
    | false =>
      refine ⟨_, rfl, iteT ?_⟩
      exact ⟨_, rfl, _, rfl, fun d hd => o1 (by rw [if_neg (by show ¬ arrowsD n d2 = true; rw [c2]; exact Bool.false_ne_true)]) H1 d s1 hd⟩
    | true =>
      rw [if_pos (show arrowsD (intD (.int (n : Int))) d2 = true from c2)] at o2 q
      refine ⟨_, rfl, iteF (g_next ?_)⟩
      obtain ⟨tab, rfl, gt⟩ := arrows_tab n8 c2
      obtain ⟨a, xs, rfl, ha, hxs⟩ := rp_tup (ds := tab.map dRow) r2
      have hl : xs.length = tab.length := by rw [rps_len hxs, List.length_map]
      have el : (elsD (dTab tab)).length = tab.length := by show (tab.map dRow).length = _; rw [List.length_map]
      refine ⟨_, rfl, _, rfl, _, _, rfl, .inr ⟨_, sqT_mono s1 ha, rfl⟩, v3, d3, (tab.length : Int), by rw [hl] <;> rfl, r3.mono s1, w3, fun H2 s2 => ?_⟩
      cases c3 : standsD tab.length d3 with
      | false =>
        refine ⟨_, rfl, iteT ?_⟩
        exact ⟨_, rfl, _, rfl, fun d hd => o2 (by rw [if_neg (by rw [el, c3]; exact Bool.false_ne_true)]) H2 d (s1.trans s2) hd⟩
      | true =>
        rw [if_pos (by rw [el]; exact c3)] at q
        refine ⟨_, rfl, iteF (g_next ?_)⟩
        obtain ⟨ends, rfl, ge⟩ := stands_ends c3
        obtain ⟨e, ys, rfl, he, hys⟩ := rp_tup (ds := ends.map fun (k : Nat) => .int (k : Int)) r3
        have hp2 := s2 _ _ (s1 _ _ hp)
        refine ⟨_, rfl, _, rfl, p, A.C, dx, _, rfl, hp2, T.cl, T.na_signs, (by show 0 < 1000; decide), ?_⟩
        refine ⟨_, rfl, _, rfl, p, A.C, dx, _, rfl, upd_same, T.cl, T.na_arrows, (by show 1 < 1000; decide), ?_⟩
        refine ⟨_, rfl, _, rfl, p, A.C, dx, _, rfl, upd_same, T.cl, T.na_ends, (by
          show (putF "_arrows" _ (putF "_signs" _ [])).length < 1000
          have : ∀ (x y : V), (putF "_arrows" x (putF "_signs" y [])).length = 2 := fun x y => by
            show (if ("_signs" : Str) = "_arrows" then _ else (("_signs" : Str), y) :: putF "_arrows" x []).length = 2
            rw [if_neg ks1]
            rfl
          rw [this]
          decide), ?_⟩
        refine q rfl n tab ends a e rfl rfl rfl rfl rfl rfl n1 gt ge _ (fun b o hb hne => ?_) upd_same
        rw [upd_ne hne, upd_ne hne, upd_ne hne]
        exact s2 _ _ (s1 _ _ hb)
theorem ok_Reader_init (T : Txt K mg A) (U : Funs K A fd) : FnOk P w K mg base CX0 13 A.Reader_init fd.Reader_init p_Reader_init (calm (spInit K A)) := fnCalm (okX_Reader_init T U)
end K6


set_option Elab.async false
set_option linter.all false
set_option maxRecDepth 100000
set_option maxHeartbeats 4000000
namespace K6
open PySem PySem.Spec PyProof.Rows L2 Rw
variable {P : Program} {w : World} {K : PySem.W.Frag} {mg : Str → Option Value} {base : Heap} {A : Ad} {fd : Fds}
abbrev Tab := List (List (Option Nat))
def spGet (C : Addr) (f : Str) : Sp := fun vs H Q _ => ∃ a dx fs v, vs = [.ref a] ∧ H a = some (.ins C dx fs) ∧ fs.lookup f = some v ∧ Q v H
theorem ok_Reader_signs (T : Txt K mg A) (U : Funs K A fd) : FnOk P w K mg base CX0 1 A.Reader_signs fd.Reader_signs p_Reader_signs (spGet A.C "_signs") := by
  refine U.F_Reader_signs.ok sc_Reader_signs (fun vs H Q E h => ?_) (fun cdv A0 outer s H vs Q E hr h => ?_)
  · obtain ⟨a, dx, fs, v, rfl, _⟩ := h
    rfl
  · have hu := hu_of hr
    obtain ⟨a, dx, fs, v, rfl, ea, l, q⟩ := h
    refine ⟨_, (pss_one (ps_ret (pe_fld (pv 0) rfl))), ?_⟩
    exact ⟨_, rfl, a, A.C, dx, fs, v, rfl, ea, T.cl, T.na_signs, l, q⟩
theorem ok_Reader_arrows (T : Txt K mg A) (U : Funs K A fd) : FnOk P w K mg base CX0 1 A.Reader_arrows fd.Reader_arrows p_Reader_arrows (spGet A.C "_arrows") := by
  refine U.F_Reader_arrows.ok sc_Reader_arrows (fun vs H Q E h => ?_) (fun cdv A0 outer s H vs Q E hr h => ?_)
  · obtain ⟨a, dx, fs, v, rfl, _⟩ := h
    rfl
  · have hu := hu_of hr
    obtain ⟨a, dx, fs, v, rfl, ea, l, q⟩ := h
    refine ⟨_, (pss_one (ps_ret (pe_fld (pv 0) rfl))), ?_⟩
    exact ⟨_, rfl, a, A.C, dx, fs, v, rfl, ea, T.cl, T.na_arrows, l, q⟩
theorem ok_Reader_ends (T : Txt K mg A) (U : Funs K A fd) : FnOk P w K mg base CX0 1 A.Reader_ends fd.Reader_ends p_Reader_ends (spGet A.C "_ends") := by
  refine U.F_Reader_ends.ok sc_Reader_ends (fun vs H Q E h => ?_) (fun cdv A0 outer s H vs Q E hr h => ?_)
  · obtain ⟨a, dx, fs, v, rfl, _⟩ := h
    rfl
  · have hu := hu_of hr
    obtain ⟨a, dx, fs, v, rfl, ea, l, q⟩ := h
    refine ⟨_, (pss_one (ps_ret (pe_fld (pv 0) rfl))), ?_⟩
    exact ⟨_, rfl, a, A.C, dx, fs, v, rfl, ea, T.cl, T.na_ends, l, q⟩
def spRd (K : PySem.W.Frag) (C : Addr) (f : Nat → List (List (Option Nat)) → List Nat → V) : Sp := fun vs H Q _ => ∃ p w tab ends, vs = [.ref p] ∧ RdAt K C H p w tab ends ∧ Q (f w tab ends) H
theorem ok_Reader_len (T : Txt K mg A) (U : Funs K A fd) : FnOk P w K mg base CX0 1 A.Reader_len fd.Reader_len p_Reader_len (spRd K A.C (fun _ tab _ => .int (tab.length : Int))) := by
  refine U.F_Reader_len.ok sc_Reader_len (fun vs H Q E h => ?_) (fun cdv A0 outer s H vs Q E hr h => ?_)
  · obtain ⟨p, n, tab, ends, rfl, _⟩ := h
    rfl
  · have hu := hu_of hr
    obtain ⟨p, n, tab, ends, rfl, R, q⟩ := h
    refine ⟨_, (pss_one (ps_ret (pe_callB (w_len (K := K)) (by rfl) T.b_len (by decide +kernel) (pa_cons (pe_fld (pv 0) rfl) pa_nil)))), ?_⟩
    obtain ⟨dx, a, e, h1, h2, h3⟩ := R.ob
    obtain ⟨xa, xs, e1, hx, hds⟩ := dp_tup h2
    obtain rfl := V.ref.inj e1
    have hl : xs.length = tab.length := by rw [dps_len hds, List.length_map]
    refine ⟨_, rfl, p, A.C, dx, _, _, rfl, h1, T.cl, T.na_arrows, flds_arrows _ _ _, _, tab.length, rfl, .inr ⟨_, hx, hl.symm⟩, q⟩
theorem insTy (T : Txt K mg A) {H : Hp} {p dx : Addr} {fs : List (Str × V)} (h : H p = some (.ins A.C dx fs)) : TyX K H (.ref p) (.ref A.C) := .base (.ins h T.cl T.t_ha T.t_hn T.t_tk T.t_mo)
theorem kit_self (a : Addr) : PySem.W.kitOne K (.ref a) (.ref a) = some true := by
  unfold PySem.W.kitOne
  simp
theorem tupTy {H : Hp} {a : Addr} {xs : List V} (h : SqT K H a xs) : TyX K H (.ref a) (.type "tuple") := by
  rcases h with (h | ⟨o, h⟩) | h
  · exact .base (.tup h)
  · exact .fTuple h
  · obtain ⟨o, vs, n, h1, h2, _⟩ := h
    exact .kTuple h1 h2
/-- what repr tells of a reader -/
def lineOf (n k : Nat) : Str := ((((("Reader(" : Str) ++ ((toString (n : Int) : String) : Str)) ++ (" signs, " : Str)) ++ ((toString (k : Int) : String) : Str)) ++ (" stands)" : Str))
theorem log_small {k : Nat} (h : k ≤ 1000) : ((k : Int)).natAbs.log2 < 1920 := by
  have : ((k : Int)).natAbs ≤ 1000 := by omega
  by_cases c : ((k : Int)).natAbs = 0
  · rw [c]; decide
  · exact (Nat.log2_lt c).mpr (Nat.lt_of_le_of_lt this (by decide +kernel))
theorem str_small {k : Nat} (h : k ≤ 1000) : ((toString (k : Int) : String) : Str).length ≤ 47 := int_len (by
  have : ((k : Int)).natAbs ≤ 1000 := by omega
  exact Nat.lt_of_le_of_lt this (by decide +kernel))
theorem empty_app (a : Str) : Str.empty ++ a = a := by
  show (⟨#[] ++ a.cps⟩ : Str) = a
  rw [Array.empty_append]
def spRepr (K : PySem.W.Frag) (C : Addr) : Sp := fun vs H Q _ => ∃ p n tab ends, vs = [.ref p] ∧ RdAt K C H p n tab ends ∧ n ≤ 8 ∧ tab.length ≤ 1000 ∧ Q (.str (lineOf n tab.length)) H
theorem ok_Reader_repr (T : Txt K mg A) (U : Funs K A fd) : FnOk P w K mg base CX0 1 A.Reader_repr fd.Reader_repr p_Reader_repr (spRepr K A.C) := by
  refine U.F_Reader_repr.ok sc_Reader_repr (fun vs H Q E h => ?_) (fun cdv A0 outer s H vs Q E hr h => ?_)
  · obtain ⟨p, n, tab, ends, rfl, _⟩ := h
    rfl
  · have hu := hu_of hr
    obtain ⟨p, n, tab, ends, rfl, R, n8, hn, q⟩ := h
    refine ⟨_, (pss_one (ps_ret (pe_joined (.cons pe_str (.cons (pe_fmt (pe_fld (pv 0) rfl)) (.cons pe_str (.cons (pe_fmt (pe_callB (w_len (K := K)) (by rfl) T.b_len (by decide +kernel) (pa_cons (pe_fld (pv 0) rfl) pa_nil))) (.cons pe_str .nil)))))))), ?_⟩
    obtain ⟨dx, a, e, h1, h2, h3⟩ := R.ob
    obtain ⟨xa, xs, e1, hx, hds⟩ := dp_tup h2
    obtain rfl := V.ref.inj e1
    have hl : xs.length = tab.length := by rw [dps_len hds, List.length_map]
    have a1 := str_small (k := n) (by omega)
    have a2 := str_small (k := tab.length) hn
    have b1 : ("Reader(" : Str).length = 7 := rfl
    have b2 : (" signs, " : Str).length = 8 := rfl
    have b3 : (" stands)" : Str).length = 8 := rfl
    unfold lineOf at q
    refine ⟨_, rfl, by rw [empty_app]; exact szl (by omega), ?_⟩
    rw [empty_app]
    refine ⟨_, rfl, p, A.C, dx, _, _, rfl, h1, T.cl, T.na_signs, flds_signs _ _ _, .inr ⟨_, rfl, log_small (by omega), _, rfl, szl (by rw [strLen_append]; omega), ?_⟩⟩
    refine ⟨_, rfl, szl (by rw [strLen_append, strLen_append]; omega), ?_⟩
    refine ⟨_, rfl, p, A.C, dx, _, _, rfl, h1, T.cl, T.na_arrows, flds_arrows _ _ _, _, tab.length, rfl, .inr ⟨_, hx, hl.symm⟩, .inr ⟨_, rfl, log_small hn, _, rfl, szl (by rw [strLen_append, strLen_append, strLen_append]; omega), ?_⟩⟩
    refine ⟨_, rfl, szl (by rw [strLen_append, strLen_append, strLen_append, strLen_append]; omega), ?_⟩
    exact q
end K6


set_option Elab.async false
set_option linter.all false
set_option maxRecDepth 100000
set_option maxHeartbeats 4000000
namespace K6
open PySem PySem.Spec PyProof.Rows L2 Rw
variable {P : Program} {w : World} {K : PySem.W.Frag} {mg : Str → Option Value} {base : Heap} {A : Ad} {fd : Fds}
/-! ### data that can be compared -/
theorem eqv_same {d : PyData} (h : SeqAt.shaped d = true) : PyData.eqv d d = true := SeqAt.eqv_refl d (SeqAt.canLay_of_shaped h)
theorem shaped_mk {d : PyData} (h : d.canLay0 = true) (h2 : d.depth ≤ 64) : SeqAt.shaped d = true := by
  unfold SeqAt.shaped
  rw [h, decide_eq_true h2]
  rfl
theorem lay_all {α : Type} (f : α → PyData) : ∀ l : List α, (∀ x ∈ l, (f x).canLay0 = true) → PyData.canLayAll0 (l.map f) = true
  | [], _ => rfl
  | x :: l, h => by
    show ((f x).canLay0 && PyData.canLayAll0 (l.map f)) = true
    rw [h x (List.mem_cons_self ..), lay_all f l fun y hy => h y (List.mem_cons_of_mem _ hy)]
    rfl
theorem dep_all {α : Type} (f : α → PyData) (n : Nat) : ∀ l : List α, (∀ x ∈ l, (f x).depth ≤ n) → PyData.depthAll (l.map f) ≤ n
  | [], _ => Nat.zero_le _
  | x :: l, h => by
    show max (f x).depth (PyData.depthAll (l.map f)) ≤ n
    exact Nat.max_le.mpr ⟨h x (List.mem_cons_self ..), dep_all f n l fun y hy => h y (List.mem_cons_of_mem _ hy)⟩
theorem row_lay (r : List (Option Nat)) : (dRow r).canLay0 = true := lay_all dO r fun x _ => by cases x <;> rfl
theorem row_dep (r : List (Option Nat)) : (dRow r).depth ≤ 1 := by
  show PyData.depthAll (r.map dO) + 1 ≤ 1
  have := dep_all dO 0 r fun x _ => by cases x <;> exact Nat.le_refl 0
  omega
theorem tab_lay (t : Tab) : (dTab t).canLay0 = true := lay_all dRow t fun r _ => row_lay r
theorem tab_dep (t : Tab) : (dTab t).depth ≤ 2 := by
  show PyData.depthAll (t.map dRow) + 1 ≤ 2
  have := dep_all dRow 1 t fun x _ => row_dep x
  omega
theorem nats_lay (l : List Nat) : (dNats l).canLay0 = true := lay_all (fun k : Nat => PyData.int (k : Int)) l fun x _ => rfl
theorem nats_dep (l : List Nat) : (dNats l).depth ≤ 1 := by
  show PyData.depthAll (l.map fun k : Nat => PyData.int (k : Int)) + 1 ≤ 1
  have := dep_all (fun k : Nat => PyData.int (k : Int)) 0 l fun x _ => Nat.le_refl 0
  omega
theorem tab_shaped (t : Tab) : SeqAt.shaped (dTab t) = true := shaped_mk (tab_lay t) (by have := tab_dep t; omega)
theorem nats_shaped (l : List Nat) : SeqAt.shaped (dNats l) = true := shaped_mk (nats_lay l) (by have := nats_dep l; omega)
theorem and_go {b rest : Bool} {Q : VK} {H : Hp} {X : Prop} (h : Q (.bl (b && rest)) H) (t : b = true → Q (.bl rest) H → X) : if b = true then X else Q (.bl false) H := by
  cases b with
  | true => exact t rfl h
  | false => exact h
def eqR (n m : Nat) (tab tab' : Tab) (ends ends' : List Nat) : Bool := decide (V.int (n : Int) = V.int (m : Int)) && (PyData.eqv (dTab tab) (dTab tab') && PyData.eqv (dNats ends) (dNats ends'))
def spEqR (K : PySem.W.Frag) (C : Addr) : Sp := fun vs H Q _ => ∃ p n tab ends y, vs = [.ref p, y] ∧ RdAt K C H p n tab ends ∧ ((∃ q m tab' ends', y = .ref q ∧ RdAt K C H q m tab' ends' ∧ Q (.bl (eqR n m tab tab' ends ends')) H) ∨
  ∃ q xs, y = .ref q ∧ SqT K H q xs ∧ Q (.bl false) H)
theorem ok_Reader_eq (T : Txt K mg A) (U : Funs K A fd) : FnOk P w K mg base CX0 1 A.Reader_eq fd.Reader_eq p_Reader_eq (spEqR K A.C) := by
  refine U.F_Reader_eq.ok sc_Reader_eq (fun vs H Q E h => ?_) (fun cdv A0 outer s H vs Q E hr h => ?_)
  · obtain ⟨p, n, tab, ends, y, rfl, _⟩ := h
    rfl
  · have hu := hu_of hr
    obtain ⟨p, n, tab, ends, y, rfl, R1, h⟩ := h
    refine ⟨_, (pss_one (ps_ret (pe_and (pe_callB (w_isi (K := K)) (by rfl) T.b_isinstance (by decide +kernel) (pa_cons (pv 1) (pa_cons (pe_glob (v := .ref A.C) (by rfl) T.m_Reader rfl) pa_nil))) (pe_and (pe_cmpR op_eq (pe_fld (pv 0) rfl) (pe_fld (pv 1) rfl) (nomark _)) (pe_and (pe_cmpR (w_eqD (K := K) hr.units) (pe_fld (pv 0) rfl) (pe_fld (pv 1) rfl) (nomark _)) (pe_one (pe_cmpR (w_eqD (K := K) hr.units) (pe_fld (pv 0) rfl) (pe_fld (pv 1) rfl) (nomark _)))))))), ?_⟩
    obtain ⟨dx, a, e, h1, h2, h3⟩ := R1.ob
    rcases h with ⟨q, m, tab', ends', rfl, R2, k⟩ | ⟨q, xs, rfl, hx, k⟩
    · obtain ⟨dy, a', e', h1', h2', h3'⟩ := R2.ob
      unfold eqR at k
      refine ⟨_, rfl, .ref q, .ref A.C, .ref A.C, .ref A.C, true, rfl, .own _, insTy T h1', kit_self _, true, rfl, ?_⟩
      refine iteT ?_
      refine ⟨_, rfl, p, A.C, dx, _, _, rfl, h1, T.cl, T.na_signs, flds_signs _ _ _, _, rfl, q, A.C, dy, _, _, rfl, h1', T.cl, T.na_signs, flds_signs _ _ _, rfl, _, rfl, ?_⟩
      refine and_go k fun _ k => ?_
      refine ⟨_, rfl, p, A.C, dx, _, _, rfl, h1, T.cl, T.na_arrows, flds_arrows _ _ _, _, rfl, q, A.C, dy, _, _, rfl, h1', T.cl, T.na_arrows, flds_arrows _ _ _, dTab tab, dTab tab', h2, h2', tab_shaped _, tab_shaped _, _, rfl, ?_⟩
      refine and_go k fun _ k => ?_
      exact ⟨_, rfl, p, A.C, dx, _, _, rfl, h1, T.cl, T.na_ends, flds_ends _ _ _, _, rfl, q, A.C, dy, _, _, rfl, h1', T.cl, T.na_ends, flds_ends _ _ _, dNats ends, dNats ends', h3, h3', nats_shaped _, nats_shaped _, k⟩
    · refine ⟨_, rfl, .ref q, .ref A.C, .type "tuple", .ref A.C, false, rfl, .own _, tupTy hx, T.kc_tuple, false, rfl, ?_⟩
      exact iteF k
def spCount (K : PySem.W.Frag) : Sp := spBetween K
theorem ok_l_is_count (T : Txt K mg A) (U : Funs K A fd) : FnOk P w K mg base CX0 1 A.l_is_count fd.l_is_count p_l_is_count (spCount K) := by
  refine U.F_l_is_count.ok sc_l_is_count (fun vs H Q E h => ?_) (fun cdv A0 outer s H vs Q E hr h => ?_)
  · obtain ⟨v, d, lo, hi, rfl, _⟩ := h
    rfl
  · have hu := hu_of hr
    obtain ⟨v, d, lo, hi, rfl, h, q⟩ := h
    refine ⟨_, (pss_one (ps_ret (pe_and (pe_callB (w_isi (K := K)) (by rfl) T.b_isinstance (by decide +kernel) (pa_cons (pv 0) (pa_cons (pe_bltn (v := .ty "int") (u := .type "int") (by rfl) T.b_int (by decide +kernel) rfl) pa_nil))) (pe_and (pe_not (pe_callB (w_isi (K := K)) (by rfl) T.b_isinstance (by decide +kernel) (pa_cons (pv 0) (pa_cons (pe_bltn (v := .ty "bool") (u := .type "bool") (by rfl) T.b_bool (by decide +kernel) rfl) pa_nil)))) (pe_one (pe_chain op_le op_le (pv 1) (pv 0) (pv 2))))))), ?_⟩
    refine ⟨_, rfl, v, .ty "int", .type (tyS d), .type "int", isN d, rfl, .ty _, h.ty, kitN d, isN d, rfl, ?_⟩
    have e := isI_of d
    cases h with
    | int i =>
      refine iteT ?_
      refine ⟨_, rfl, _, .ty "bool", .type "int", .type "bool", false, rfl, .ty _, .base (.int i), kit_ty (by decide +kernel), false, rfl, true, rfl, ?_⟩
      refine iteT ?_
      refine ⟨_, rfl, _, rfl, lo, i, rfl, rfl, _, rfl, ?_⟩
      have q : Q (.bl (decide (lo ≤ i) && decide (i ≤ hi))) H := q
      by_cases c : lo ≤ i
      · rw [decide_eq_true c] at q ⊢
        refine iteT ?_
        exact ⟨_, rfl, i, hi, rfl, rfl, q⟩
      · rw [decide_eq_false c] at q ⊢
        exact iteF q
    | bl b =>
      refine iteT ?_
      refine ⟨_, rfl, _, .ty "bool", .type "bool", .type "bool", true, rfl, .ty _, .base (.bl b), kit_ty (by decide +kernel), true, rfl, false, rfl, ?_⟩
      exact iteF q
    | _ => exact iteF q
end K6


set_option Elab.async false
set_option linter.all false
set_option maxRecDepth 100000
set_option maxHeartbeats 4000000
namespace K6
open PySem PySem.Spec PyProof.Rows L2 Rw
variable {P : Program} {w : World} {K : PySem.W.Frag} {mg : Str → Option Value} {base : Heap} {A : Ad} {fd : Fds}
theorem ints_get {c : List Int} {g : Nat} (h : g < c.length) : (c.map V.int)[g]? = some (.int (c.getD g 0)) := by
  rw [List.getElem?_map, List.getD_eq_getElem?_getD, List.getElem?_eq_getElem h]
  rfl
/-! ### draws -/
structure BarAt (H : Hp) (b : Addr) : Prop where
  ob : ∃ f s c : Int, H b = some (.lst [.int f, .int s, .int c]) ∧ 0 ≤ f ∧ 0 ≤ s
theorem g_viaP {te : TE} {σ : L2.St} {H : Hp} {Q : VK} (Pp : V → Hp → Prop) (h : ∀ Q' : VK, (∀ v H2, Pp v H2 → Q' v H2) → te σ H Q') (rest : ∀ v H2, Pp v H2 → Q v H2) : te σ H Q := h Q rest
theorem fmod_nn (x : Int) {m : Int} (h : 0 < m) : 0 ≤ x.fmod m := by
  rw [Int.fmod_eq_emod_of_nonneg x (by omega)]
  exact Int.emod_nonneg x (by omega)
theorem fmod_lt (x : Int) {m : Int} (h : 0 < m) : x.fmod m < m := by
  rw [Int.fmod_eq_emod_of_nonneg x (by omega)]
  exact Int.emod_lt_of_pos x h
def spBarrel (K : PySem.W.Frag) : Sp := fun vs H Q _ => ∃ (a : Addr) (ns : List Int) (t : Nat), vs = [.ref a, .int (t : Int)] ∧ SqL K H a (ns.map V.int) ∧ ns.length ≤ 63 ∧ t ≤ 3 ∧
  ∀ b H', H b = none → Same H H' → BarAt H' b → Q (.ref b) H'
theorem ok_l_barrel (T : Txt K mg A) (U : Funs K A fd) : FnOk P w K mg base CX0 1 A.l_barrel fd.l_barrel p_l_barrel (spBarrel K) := by
  refine U.F_l_barrel.ok sc_l_barrel (fun vs H Q E h => ?_) (fun cdv A0 outer s H vs Q E hr h => ?_)
  · obtain ⟨a, ns, t, rfl, _⟩ := h
    rfl
  · have hu := hu_of hr
    obtain ⟨a, ns, t, rfl, hS, hn, ht, k⟩ := h
    refine ⟨_, (pss_cons (ps_set (i := 2) sc_l_barrel.nd rfl (Or.inl rfl) (pe_ifExp (pt_cmpR op_lt (pv 1) (pe_callB (w_len (K := K)) (by rfl) T.b_len (by decide +kernel) (pa_cons (pv 0) pa_nil)) (nomark _)) (pe_callTy call_int1 (by rfl) T.b_int (by decide +kernel) (pa_cons (pe_ix (w_ixL (K := K)) (pv 0) (pv 1) (fun _ _ => rfl)) pa_nil)) (pe_op op_add (pe_op op_mul pe_int (pv 1)) pe_int)))
       (pss_cons (ps_set (i := 3) sc_l_barrel.nd rfl (Or.inl rfl) (pe_op op_add pe_int (pe_op op_mul pe_int (pv 1))))
       (pss_cons (ps_for PassesOwn.never rfl (w_piL (K := K) (pe_slice (w_slL (K := K)) (pv 0) po_none (po_some pe_int))) (pg_name (i := 4) sc_l_barrel.nd rfl (Or.inl rfl))
       (pss_one (ps_set (i := 3) sc_l_barrel.nd rfl (Or.inl rfl) (pe_op op_modN (pe_callTy call_int1 (by rfl) T.b_int (by decide +kernel) (pa_cons (pe_op op_add (pe_op op_add (pe_op op_mul (pv 3) pe_int) (pe_op op_modN (pe_callTy call_int1 (by rfl) T.b_int (by decide +kernel) (pa_cons (pv 4) pa_nil)) pe_int)) pe_int) pa_nil)) pe_int))))
       (pss_cons (ps_set (i := 5) sc_l_barrel.nd rfl (Or.inl rfl) (pe_ifExp (PW.pt (pw_or (pt_cmpR op_lt (pv 2) pe_int (nomark _)) (pw_or1 (pt_cmpR op_ge (pv 2) (pe_op op_pow pe_int pe_int) (nomark _))))) (pe_callB call_abs (by rfl) T.b_abs (by decide +kernel) (pa_cons (pv 2) pa_nil)) pe_int))
       (pss_one (ps_ret (pe_lst (pa_cons (pv 5) (pa_cons (pe_op op_modN (pe_callTy call_int1 (by rfl) T.b_int (by decide +kernel) (pa_cons (pe_op op_add (pv 3) (pe_op op_mul (pe_op op_modN (pv 2) pe_int) pe_int)) pa_nil)) pe_int) (pa_cons pe_int pa_nil)))))))))), ?_⟩
    refine g_seq (g_asg (g_viaP (fun v H2 => H2 = H ∧ ∃ o : Int, v = .int o) (fun Q' rest => ?_) ?_))
    · refine ⟨_, rfl, _, rfl, _, _, rfl, .inl ⟨_, hS, rfl⟩, _, _, rfl, rfl, _, rfl, ?_⟩
      by_cases c : t < ns.length
      · rw [decide_eq_true (show (t : Int) < ((ns.map V.int).length : Int) by rw [List.length_map]; omega)]
        refine iteT ?_
        refine ⟨_, rfl, _, rfl, a, _, _, _, rfl, rfl, hS, atI_nat (ints_get c), .inl ⟨_, rfl, rest _ H ⟨rfl, _, rfl⟩⟩⟩
      · rw [decide_eq_false (show ¬ ((t : Int) < ((ns.map V.int).length : Int)) by rw [List.length_map]; omega)]
        refine iteF ?_
        refine ⟨_, rfl, _, _, rfl, rfl, .inl ⟨by decide, by decide⟩, _, _, rfl, rfl, rest _ H ⟨rfl, _, rfl⟩⟩
    · rintro v H2 ⟨rfl, o, rfl⟩
      refine ⟨_, rfl, _, _, rfl, rfl, .inl ⟨by decide, by decide⟩, _, _, rfl, rfl, ?_⟩
      refine ⟨_, rfl, 20, rfl, a, _, rfl, hS, fun p hp => ⟨p, rfl, ⟨_, lst_of upd_same⟩, ?_⟩⟩
      have s1 : Same H2 (upd H2 p (.lst (cutV (ns.map V.int) none (some 20)))) := same_upd hp
      refine for_list (xs := cutV (ns.map V.int) none (some 20)) (fun i σ H' => ∃ (st : Int) (y4 : Option V), σ = [some (.ref a), some (.int (t : Int)), some (.int o), some (.int st), y4, none] ∧ 0 ≤ st ∧ H' = upd H2 p (.lst (cutV (ns.map V.int) none (some 20)))) ?_ ?_ ?_ ?_
      · exact ⟨_, none, rfl, by omega, rfl⟩
      · rintro i σ H' _ ⟨_, _, _, _, rfl⟩
        exact lst_of upd_same
      · rintro i x σ H' hi ⟨st, y4, rfl, h0, rfl⟩
        have hm : x ∈ ns.map V.int := by
          have := List.mem_of_getElem? hi
          unfold cutV at this
          exact List.mem_of_mem_drop (List.mem_of_mem_take this)
        obtain ⟨z, _, rfl⟩ := List.mem_map.mp hm
        refine ⟨_, rfl, _, _, rfl, rfl, .inr ⟨by decide, by decide⟩, _, rfl, .inl ⟨_, rfl, _, _, rfl, rfl, (by show (1000003 : Int) ≠ 0; decide), _, _, rfl, rfl, _, _, rfl, rfl, .inl ⟨_, rfl, _, _, rfl, rfl, (by show (2147483399 : Int) ≠ 0; decide), ?_⟩⟩⟩
        exact ⟨_, _, rfl, fmod_nn _ (by decide), rfl⟩
      · rintro σ H' ⟨st, y4, rfl, h0, rfl⟩
        dsimp only
        refine g_seq (g_asg (g_viaP (fun v H2' => H2' = upd H2 p (.lst (cutV (ns.map V.int) none (some 20))) ∧ ∃ f : Int, 0 ≤ f ∧ v = .int f) (fun Q' rest => ?_) ?_))
        · refine ⟨_, rfl, _, _, rfl, rfl, _, rfl, ?_⟩
          have absR : ∀ H', (H' = upd H2 p (.lst (cutV (ns.map V.int) none (some 20)))) → Q' (.int (if o < 0 then -o else o)) H' := fun H' e => rest _ H' ⟨e, _, by split <;> omega, rfl⟩
          by_cases c : o < 0
          · rw [decide_eq_true c]
            refine iteT (iteT ?_)
            exact ⟨_, rfl, _, rfl, absR _ rfl⟩
          · rw [decide_eq_false c]
            refine iteF ?_
            refine ⟨_, rfl, _, _, rfl, rfl, ⟨by decide, by decide, by decide⟩, _, _, rfl, rfl, _, rfl, ?_⟩
            by_cases c2 : (10 : Int) ^ (16 : Int).toNat ≤ o
            · rw [decide_eq_true c2]
              refine iteT ?_
              exact ⟨_, rfl, _, rfl, absR _ rfl⟩
            · rw [decide_eq_false c2]
              exact iteF (rest _ _ ⟨rfl, 0, by omega, rfl⟩)
        · rintro v H' ⟨rfl, f, hf, rfl⟩
          refine ⟨_, rfl, _, rfl, _, rfl, _, _, rfl, rfl, (by show (65521 : Int) ≠ 0; decide), _, _, rfl, rfl, .inr ⟨by decide, by decide⟩, _, _, rfl, rfl, .inl ⟨_, rfl, _, _, rfl, rfl, (by show (2147483399 : Int) ≠ 0; decide), by show 3 ≤ sizeLine; decide, fun b hb => ?_⟩⟩
          exact k b _ (Same.free s1 hb) (s1.trans (same_upd hb)) ⟨f, _, 0, upd_same, hf, fmod_nn _ (by decide)⟩
def spDip : Sp := fun vs H Q _ => ∃ (b : Addr) (top : Nat), vs = [.ref b, .int (top : Int)] ∧ BarAt H b ∧ 1 ≤ top ∧ top ≤ 1000000 ∧ ∀ (r : Nat) H', r < top → Keep b H H' → BarAt H' b → Q (.int (r : Int)) H'
theorem nat_of {z : Int} (h : 0 ≤ z) : ∃ r : Nat, z = (r : Int) := ⟨z.toNat, by omega⟩
theorem ok_l_dip (T : Txt K mg A) (U : Funs K A fd) : FnOk P w K mg base CX0 1 A.l_dip fd.l_dip p_l_dip (spDip) := by
  refine U.F_l_dip.ok sc_l_dip (fun vs H Q E h => ?_) (fun cdv A0 outer s H vs Q E hr h => ?_)
  · obtain ⟨b, top, rfl, _⟩ := h
    rfl
  · have hu := hu_of hr
    obtain ⟨b, top, rfl, B, h1, h2, k⟩ := h
    refine ⟨_, (pss_cons (ps_asg (pe_op op_add (pe_ix (w_ixL (K := K)) (pv 0) pe_int (fun _ _ => rfl)) pe_int) (pg_sub (pv 0) pe_int set_list))
       (pss_cons (ps_asg (pe_op op_modN (pe_callTy call_int1 (by rfl) T.b_int (by decide +kernel) (pa_cons (pe_op op_add (pe_op op_add (pe_op op_mul (pe_ix (w_ixL (K := K)) (pv 0) pe_int (fun _ _ => rfl)) pe_int) (pe_op op_mul pe_int (pe_ix (w_ixL (K := K)) (pv 0) pe_int (fun _ _ => rfl)))) pe_int) pa_nil)) pe_int) (pg_sub (pv 0) pe_int set_list))
       (pss_cons (ps_if (pt_cmpR op_gt (pe_ix (w_ixL (K := K)) (pv 0) pe_int (fun _ _ => rfl)) pe_int (nomark _)) (pss_cons (ps_asg (pe_callB call_divmod (by rfl) T.b_divmod (by decide +kernel) (pa_cons (pe_ix (w_ixL (K := K)) (pv 0) pe_int (fun _ _ => rfl)) (pa_cons (pv 1) pa_nil))) (w_tup (K := K) (n := 2) rfl (pgs_cons (pg_sub (pv 0) pe_int set_list) (pgs_cons (pg_name (i := 2) sc_l_dip.nd rfl (Or.inl rfl)) pgs_nil))))
       (pss_one (ps_ret (pv 2)))) pss_nil)
       (pss_one (ps_ret (pe_op op_modN (pe_callTy call_int1 (by rfl) T.b_int (by decide +kernel) (pa_cons (pe_op op_add (pe_op op_fdivN (pe_ix (w_ixL (K := K)) (pv 0) pe_int (fun _ _ => rfl)) pe_int) (pe_op op_fdivN (pe_ix (w_ixL (K := K)) (pv 0) pe_int (fun _ _ => rfl)) pe_int)) pa_nil)) (pv 1))))))), ?_⟩
    obtain ⟨f, s0, c, hb, hf, hs⟩ := B.ob
    refine ⟨_, rfl, b, _, _, _, rfl, rfl, lst_of hb, rfl, _, _, rfl, rfl, _, rfl, b, _, _, 2, rfl, rfl, hb, rfl, ?_⟩
    have b1 : (upd H b (.lst [.int f, .int s0, .int (c + 1)])) b = some (.lst [.int f, .int s0, .int (c + 1)]) := upd_same
    refine ⟨_, rfl, b, _, _, _, rfl, rfl, lst_of b1, rfl, _, _, rfl, rfl, .inr ⟨by decide, by decide⟩, _, rfl, b, _, _, _, rfl, rfl, lst_of b1, rfl, _, _, rfl, rfl, .inl ⟨by decide, by decide⟩, _, _, rfl, rfl, _, _, rfl, rfl, .inl ⟨_, rfl, _, _, rfl, rfl, (by show (2147483399 : Int) ≠ 0; decide), ?_⟩⟩
    refine ⟨_, rfl, b, _, _, 1, rfl, rfl, b1, rfl, ?_⟩
    have fin : ∀ (x : Int) (H2 : Hp), Keep b H H2 → BarAt H2 b → Q (.int (x.fmod (top : Int))) H2 := by
      intro x H2 kp B2
      have hr0 := fmod_nn x (m := (top : Int)) (by omega)
      have hr1 := fmod_lt x (m := (top : Int)) (by omega)
      obtain ⟨r, er⟩ := nat_of hr0
      rw [er] at hr1 ⊢
      exact k r H2 (by omega) kp B2
    have fin2 : ∀ (H2 : Hp), Keep b H H2 → BarAt H2 b → Q (.int (f % (top : Int))) H2 := by
      intro H2 kp B2
      have hr0 : 0 ≤ f % (top : Int) := Int.emod_nonneg _ (by omega)
      have hr1 : f % (top : Int) < top := Int.emod_lt_of_pos _ (by omega)
      obtain ⟨r, er⟩ := nat_of hr0
      rw [er] at hr1 ⊢
      exact k r H2 (by omega) kp B2
    refine ⟨_, rfl, b, _, _, _, rfl, rfl, lst_of upd_same, rfl, _, _, rfl, rfl, _, rfl, ?_⟩
    by_cases cf : 0 < f
    · rw [decide_eq_true cf]
      refine iteT ?_
      refine ⟨_, rfl, b, _, _, _, rfl, rfl, lst_of upd_same, rfl, _, rfl, _, _, rfl, ⟨by omega, by omega⟩, fun T hT => ?_⟩
      have ne : b ≠ T := ne_of_none upd_same hT
      refine ⟨T, _, rfl, tup_of upd_same, rfl, _, _, rfl, _, rfl, b, _, _, 0, rfl, rfl, (by rw [upd_ne ne]; exact upd_same), rfl, _, _, rfl, rfl, ?_⟩
      have hq : 0 ≤ f / (top : Int) := Int.ediv_nonneg (by omega) (by omega)
      exact ⟨_, rfl, fin2 _ ((Keep.trans keep_upd keep_upd).trans (Keep.trans (Keep.of (same_upd hT)) keep_upd)) ⟨f / (top : Int), _, c + 1, upd_same, hq, fmod_nn _ (by decide)⟩⟩
    · rw [decide_eq_false cf]
      refine iteF (g_next ?_)
      refine ⟨_, rfl, b, _, _, _, rfl, rfl, lst_of upd_same, rfl, _, _, rfl, rfl, ⟨by decide, by decide⟩, _, rfl, b, _, _, _, rfl, rfl, lst_of upd_same, rfl, _, _, rfl, rfl, ⟨by decide, by decide⟩, _, _, rfl, rfl, .inl ⟨_, rfl, _, rfl, _, _, rfl, rfl, (by show (top : Int) ≠ 0; omega), ?_⟩⟩
      exact fin _ _ (Keep.trans keep_upd keep_upd) ⟨f, _, c + 1, upd_same, hf, fmod_nn _ (by decide)⟩
def spOne (K : PySem.W.Frag) : Sp := fun vs H Q _ => ∃ (b a : Addr) (xs : List V), vs = [.ref b, .ref a] ∧ BarAt H b ∧ SqL K (del b H) a xs ∧ 0 < xs.length ∧ xs.length ≤ 1000 ∧ ∀ x H', x ∈ xs → Keep b H H' → BarAt H' b → Q x H'
theorem ok_l_one_of (T : Txt K mg A) (U : Funs K A fd) : FnOk P w K mg base CX0 4 A.l_one_of fd.l_one_of p_l_one_of (spOne K) := by
  have b_l_dip := U.b_l_dip
  have G_l_dip := ok_l_dip (P := P) (w := w) (base := base) T U
  refine U.F_l_one_of.ok sc_l_one_of (fun vs H Q E h => ?_) (fun cdv A0 outer s H vs Q E hr h => ?_)
  · obtain ⟨b, a, xs, rfl, _⟩ := h
    rfl
  · have hu := hu_of hr
    obtain ⟨b, a, xs, rfl, B, hx, h1, h2, k⟩ := h
    refine ⟨_, (pss_one (ps_ret (pe_ix (w_ixL (K := K)) (pv 1) (pe_call G_l_dip (hr.mono (by decide)) (by rfl) T.m_l_dip T.k_l_dip b_l_dip .nil pass0 (pa_cons (pv 0) (pa_cons (pe_callB (w_len (K := K)) (by rfl) T.b_len (by decide +kernel) (pa_cons (pv 1) pa_nil)) pa_nil))) (fun _ _ => rfl)))), ?_⟩
    refine ⟨_, rfl, _, rfl, _, rfl, _, _, rfl, .inl ⟨_, sqL_mono (del_same b) hx, rfl⟩, b, xs.length, rfl, B, by omega, by omega, fun r H1 hr kp B1 => ?_⟩
    have e : xs[r]? = some xs[r] := List.getElem?_eq_getElem hr
    exact ⟨a, xs, _, _, rfl, rfl, sqL_mono (del_same b) (sqL_mono kp hx), atI_nat e, k _ H1 (List.getElem_mem hr) kp B1⟩
/-- a new object beside the barrel, changed -/
theorem keep_put {b p : Addr} {o : HO} {H H1 : Hp} (k : Keep b H H1) (h : H p = none) : Keep b H (upd H1 p o) := by
  by_cases e : p = b
  · subst e
    exact k.trans keep_upd
  · intro x u hx
    have hxb : x ≠ b := by
      intro z
      rw [z, del_none] at hx
      cases hx
    have z := k x u hx
    rw [del_ne hxb] at hx z ⊢
    rw [upd_ne (ne_of_none hx h)]
    exact z
theorem del_upd {b p : Addr} {o : HO} {H : Hp} (h : p ≠ b) : del b (upd H p o) = upd (del b H) p o := by
  funext x
  show (if x = b then none else if x = p then some o else H x) = (if x = p then some o else if x = b then none else H x)
  by_cases e : x = b
  · subst e
    rw [if_pos rfl, if_neg (fun z => h z.symm), if_pos rfl]
  · rw [if_neg e, if_neg e]
theorem bar_ne {H : Hp} {b p : Addr} (B : BarAt H b) (h : H p = none) : p ≠ b := by
  obtain ⟨f, s, c, hb, _⟩ := B.ob
  intro z
  rw [z, hb] at h
  cases h
theorem bar_upd {H : Hp} {b p : Addr} {o : HO} (B : BarAt H b) (h : p ≠ b) : BarAt (upd H p o) b := by
  obtain ⟨f, s, c, hb, h1, h2⟩ := B.ob
  exact ⟨f, s, c, by rw [upd_ne (fun z => h z.symm)]; exact hb, h1, h2⟩
/-- pairs that stand at the items of a list -/
def Prs (H : Hp) (acc : List V) (prs : List (Nat × Nat)) : Prop := acc.length = prs.length ∧ ∀ (k : Nat) (pr : Nat × Nat), prs[k]? = some pr → ∃ p, acc[k]? = some (.ref p) ∧ H p = some (.lst [.int (pr.1 : Int), .int (pr.2 : Int)])
theorem Prs.mono {H H' : Hp} {acc : List V} {prs : List (Nat × Nat)} (h : Prs H acc prs) (s : Same H H') : Prs H' acc prs :=
  ⟨h.1, fun k pr hk => let ⟨p, e, hp⟩ := h.2 k pr hk; ⟨p, e, s _ _ hp⟩⟩
theorem Prs.snoc {H : Hp} {acc : List V} {prs : List (Nat × Nat)} {p : Addr} {pr : Nat × Nat} (h : Prs H acc prs) (hp : H p = some (.lst [.int (pr.1 : Int), .int (pr.2 : Int)])) : Prs H (acc ++ [.ref p]) (prs ++ [pr]) := by
  refine ⟨by rw [List.length_append, List.length_append, h.1]; rfl, fun k q hk => ?_⟩
  by_cases c : k < prs.length
  · rw [List.getElem?_append_left c] at hk
    obtain ⟨r, e, hr⟩ := h.2 k q hk
    exact ⟨r, by rw [List.getElem?_append_left (by rw [h.1]; exact c)]; exact e, hr⟩
  · have c' : k = prs.length := by
      have := lt_of_get hk
      rw [List.length_append] at this
      have : k < prs.length + 1 := this
      omega
    subst c'
    rw [List.getElem?_append_right (Nat.le_refl _), Nat.sub_self] at hk
    obtain rfl := Option.some.inj hk
    refine ⟨p, ?_, hp⟩
    rw [List.getElem?_append_right (by rw [h.1]; exact Nat.le_refl _), h.1, Nat.sub_self]
    rfl
def spTab (K : PySem.W.Frag) : Sp := fun vs H Q _ => ∃ (b : Addr) (n s : Nat), vs = [.ref b, .int (n : Int), .int (s : Int)] ∧ BarAt H b ∧ n ≤ 8 ∧ 1 ≤ s ∧ s ≤ 200 ∧
  ∀ a tab H', Keep b H H' → BarAt H' b → Dp K (del b H') (.ref a) (dTab tab) → GoodT n tab → tab.length = s → Q (.ref a) H'
theorem ok_l_arrows_for (T : Txt K mg A) (U : Funs K A fd) : FnOk P w K mg base CX0 7 A.l_arrows_for fd.l_arrows_for p_l_arrows_for (spTab K) := by
  have b_l_dip := U.b_l_dip
  have G_l_dip := ok_l_dip (P := P) (w := w) (base := base) T U
  have b_l_one_of := U.b_l_one_of
  have G_l_one_of := ok_l_one_of (P := P) (w := w) (base := base) T U
  refine U.F_l_arrows_for.ok sc_l_arrows_for (fun vs H Q E h => ?_) (fun cdv A0 outer s H vs Q E hr h => ?_)
  · obtain ⟨b, n, s0, rfl, _⟩ := h
    rfl
  · have hu := hu_of hr
    obtain ⟨b, n, s0, rfl, B, hn, h1, h2, k⟩ := h
    refine ⟨_, (pss_cons (ps_asg (pe_tup (pa_cons (pe_call G_l_one_of (hr.mono (by decide)) (by rfl) T.m_l_one_of T.k_l_one_of b_l_one_of .nil pass0 (pa_cons (pv 0) (pa_cons (pe_lst (pa_cons pe_int (pa_cons pe_int (pa_cons pe_int pa_nil)))) pa_nil))) (pa_cons (pe_lst pa_nil) pa_nil))) (w_tup (K := K) (n := 2) rfl (pgs_cons (pg_name (i := 3) sc_l_arrows_for.nd rfl (Or.inr rfl)) (pgs_cons (pg_name (i := 4) sc_l_arrows_for.nd rfl (Or.inl rfl)) pgs_nil))))
       (pss_cons (ps_for PassesOwn.never rfl (pi_range1 (by rfl) T.b_range (pa_cons (pv 2) pa_nil)) (pg_name (i := 5) sc_l_arrows_for.nd rfl (Or.inl rfl))
       (pss_cons (ps_setLc (i := 6) (own := [("_law_j", 7)]) (g := gName 7) (tt := tYes) (by rfl) sc_l_arrows_for.nd rfl rfl (sw_true rfl rfl rfl (by decide +kernel)) (pi_range1 (by rfl) T.b_range (pa_cons (pv 1) pa_nil)) (blkOk_by (own := [("_law_j", 7)]) (by rfl)) (fun _ _ _ _ _ => (pg_name (i := 7) sc_l_arrows_for.nd rfl (Or.inl rfl))) (fun _ _ _ _ _ => pts_nil) (fun _ _ _ _ _ => (pe_lst (pa_cons (pe_call G_l_dip (hr.mono (by decide)) (by rfl) T.m_l_dip T.k_l_dip b_l_dip .nil pass0 (pa_cons (pv 0) (pa_cons (pv 3) pa_nil))) (pa_cons (pe_call G_l_dip (hr.mono (by decide)) (by rfl) T.m_l_dip T.k_l_dip b_l_dip .nil pass0 (pa_cons (pv 0) (pa_cons (pv 2) pa_nil))) pa_nil)))))
       (pss_one (ps_expr (w_bm (K := K) PySem.F.plainAttrs_list PySem.F.slot_list_append PySem.F.type_list_append mt_append (pv 4) (pa_cons (pe_callTy (w_tuple (K := K)) (by rfl) T.b_tuple (by decide +kernel) (pa_cons (pe_lc (own := [("_law_two", 8)]) (g := gName 8) (tt := tYes) (by rfl) sc_l_arrows_for.nd (w_piL (K := K) (pv 6)) (blkOk_by (own := [("_law_two", 8)]) (by rfl)) (fun _ _ _ _ _ => (pg_name (i := 8) sc_l_arrows_for.nd rfl (Or.inl rfl))) (fun _ _ _ _ _ => pts_nil) (fun _ _ _ _ _ => (pe_ifExp (pt_cmpR op_eq (pe_ix (w_ixL (K := K)) (pv 8) pe_int (fun _ _ => rfl)) pe_int (nomark _)) pe_non (pe_ix (w_ixL (K := K)) (pv 8) pe_int (fun _ _ => rfl))))) pa_nil)) pa_nil))))))
       (pss_one (ps_ret (pe_callTy (w_tuple (K := K)) (by rfl) T.b_tuple (by decide +kernel) (pa_cons (pv 4) pa_nil)))))), ?_⟩
    refine ⟨_, rfl, by show 3 ≤ sizeLine; decide, fun m hm => ?_⟩
    have nem : m ≠ b := bar_ne B hm
    have Bm := bar_upd (o := .lst [.int 3, .int 6, .int 1000]) B nem
    refine ⟨b, m, [.int 3, .int 6, .int 1000], rfl, Bm, lst_of (by rw [del_ne nem]; exact upd_same), by show 0 < 3; decide, by show 3 ≤ 1000; decide, fun x H1 hx kp B1 => ?_⟩
    obtain ⟨bare, hb1, hb2, rfl⟩ : ∃ bare : Nat, 1 ≤ bare ∧ bare ≤ 1000 ∧ x = .int (bare : Int) := by
      simp at hx
      rcases hx with rfl | rfl | rfl
      · exact ⟨3, by decide, by decide, rfl⟩
      · exact ⟨6, by decide, by decide, rfl⟩
      · exact ⟨1000, by decide, by decide, rfl⟩
    have k1 : Keep b H H1 := (Keep.of (same_upd hm)).trans kp
    refine ⟨Nat.zero_le _, fun c hc => ?_⟩
    have nec : c ≠ b := bar_ne B1 hc
    refine ⟨by show 2 ≤ sizeLine; decide, fun T hT => ?_⟩
    have neT : c ≠ T := ne_of_none upd_same hT
    have neTb : T ≠ b := bar_ne (bar_upd B1 nec) hT
    refine ⟨T, _, rfl, tup_of upd_same, rfl, _, _, rfl, _, _, rfl, rfl, ?_⟩
    have k2 : Keep b H1 (upd (upd H1 c (.lst [])) T (.tup [.int (bare : Int), .ref c])) := (Keep.of (same_upd hc)).trans (Keep.of (same_upd hT))
    refine ⟨_, rfl, (s0 : Int), rfl, by omega, by omega, ?_⟩
    rw [Int.toNat_natCast]
    refine for_range (lo := 0) (n := s0) (fun i σ H' => ∃ y5 y6, σ = [some (.ref b), some (.int (n : Int)), some (.int (s0 : Int)), some (.int (bare : Int)), some (.ref c), y5, y6, none, none] ∧ Keep b H1 H' ∧ BarAt H' b ∧
      ∃ (acc : List V) (tab : Tab), H' c = some (.lst acc) ∧ DpAll K (del c (del b H')) acc (tab.map dRow) ∧ tab.length = i ∧ ∀ row ∈ tab, row.length = n ∧ ∀ g, some g ∈ row → g < s0) ?_ ?_ ?_
    · refine ⟨none, none, rfl, k2, bar_upd (bar_upd B1 nec) neTb, [], [], by rw [upd_ne neT]; exact upd_same, .nil, rfl, fun row h => by simp at h⟩
    · rintro i σ H2 hi ⟨y5, y6, rfl, k3, B2, acc, tab, hacc, dacc, hlen, hrow⟩
      -- the draws
      refine ⟨_, rfl, (n : Int), rfl, by omega, by omega, fun D hD => ?_⟩
      rw [Int.toNat_natCast]
      have neD : D ≠ b := bar_ne B2 hD
      have neDc : D ≠ c := fun z => by
        rw [z, hacc] at hD
        cases hD
      refine lc_range (lo := 0) (n := n) (fun j H' => Keep b H2 H' ∧ BarAt H' b ∧ ∃ (a2 : List V) (prs : List (Nat × Nat)), H' D = some (.lst a2) ∧ Prs (del D (del b H')) a2 prs ∧ prs.length = j ∧ ∀ pr ∈ prs, pr.2 < s0) ?_ ?_ ?_
      · exact ⟨Keep.of (same_upd hD), bar_upd B2 neD, [], [], upd_same, ⟨rfl, fun k pr h => by simp at h⟩, rfl, fun pr h => by simp at h⟩
      · rintro j H3 hj ⟨k4, B3, a2, prs, ha2, hprs, hpl, hps⟩
        refine ⟨rfl, yes_go ?_⟩
        refine ⟨_, rfl, _, rfl, b, bare, rfl, B3, by omega, by omega, fun r1 H4 hr1 k5 B4 => ?_⟩
        refine ⟨_, rfl, _, rfl, b, s0, rfl, B4, by omega, by omega, fun r2 H5 hr2 k6 B5 => ?_⟩
        refine ⟨by show 2 ≤ sizeLine; decide, fun p hp => ?_⟩
        have nepb : p ≠ b := bar_ne B5 hp
        have hD5 : H5 D = some (.lst a2) := (k5.trans k6).get neD ha2
        have nepD : D ≠ p := ne_of_none hD5 hp
        refine ⟨a2, by rw [upd_ne nepD]; exact hD5, szt (by rw [hprs.1, hpl]; omega), ?_⟩
        have kk : Keep b H2 H5 := k4.trans (k5.trans k6)
        have k7 : Keep b H2 (upd H5 p (.lst [.int (r1 : Int), .int (r2 : Int)])) := kk.trans (Keep.of (same_upd hp))
        refine ⟨keep_put k7 hD, bar_upd (bar_upd B5 nepb) neD, a2 ++ [.ref p], prs ++ [(r1, r2)], upd_same, ?_, by rw [List.length_append, hpl]; rfl, fun pr h => ?_⟩
        · have m1 : Same (del D (del b H3)) (del D (del b (upd H5 p (.lst [.int (r1 : Int), .int (r2 : Int)])))) := del_mono (Same.trans (k5.trans k6) (Keep.of (same_upd hp)))
          have m2 : Same (del D (del b (upd H5 p (.lst [.int (r1 : Int), .int (r2 : Int)])))) (del D (del b (upd (upd H5 p (.lst [.int (r1 : Int), .int (r2 : Int)])) D (.lst (a2 ++ [.ref p]))))) := by
            rw [del_upd neD]
            exact keep_upd
          refine ((hprs.mono m1).snoc (pr := (r1, r2)) ?_).mono m2
          rw [del_ne (fun z => nepD z.symm), del_ne nepb]
          exact upd_same
        · rcases List.mem_append.mp h with h | h
          · exact hps pr h
          · rw [List.mem_singleton.mp h]
            exact hr2
      · rintro H3 ⟨k4, B3, a2, prs, ha2, hprs, hpl, hps⟩
        have hc3 : H3 c = some (.lst acc) := k4.get nec hacc
        refine ⟨_, rfl, .inl ⟨rfl, _, lst_of hc3⟩, ?_⟩
        have prs3 : Prs H3 a2 prs := hprs.mono ((del_same D).trans (del_same b))
        refine g_arg (g_cb (cL (xs := a2) (fun q => [match prs[q]? with | some pr => if pr.1 = 0 then V.non else .int (pr.2 : Int) | none => .non]) (fun R r => ?_) (lst_of ha2) (fun _ => Nat.le_refl 1) (by rw [hprs.1, hpl]; omega) ?_ (fun q x hq => turn_yes fun H5 R5 s5 r5 => ?_) (fun D5 H5 hD5 s5 h5 => ?_)))
        · exact ⟨_, rfl, r⟩
        · exact fun _ => rfl
        · have hql : q < prs.length := by have := lt_of_get hq; rw [hprs.1] at this; exact this
          have epr : prs[q]? = some prs[q] := List.getElem?_eq_getElem hql
          obtain ⟨p, ep, hp⟩ := prs3.2 q _ epr
          rw [ep] at hq
          obtain rfl := Option.some.inj hq
          rw [epr] at r5
          have hp5 := s5 _ _ hp
          refine ⟨_, rfl, p, _, _, _, rfl, rfl, lst_of hp5, rfl, rfl, _, rfl, ?_⟩
          by_cases z : prs[q].1 = 0
          · have : decide (V.int (prs[q].1 : Int) = V.int 0) = true := by rw [z]; rfl
            rw [this]
            refine iteT ?_
            have r5 := r5 H5 (Same.refl _)
            simp only [z, if_true] at r5
            exact r5
          · have : decide (V.int (prs[q].1 : Int) = V.int 0) = false := by
              rw [decide_eq_false]
              intro y
              injection y with y
              omega
            rw [this]
            refine iteF ?_
            have r5 := r5 H5 (Same.refl _)
            simp only [z, if_false] at r5
            exact ⟨_, rfl, p, _, _, _, rfl, rfl, lst_of hp5, rfl, r5⟩
        · have e5 : pre (fun q => [match prs[q]? with | some pr => if pr.1 = 0 then V.non else .int (pr.2 : Int) | none => .non]) a2.length = (prs.map fun pr => if pr.1 = 0 then none else some pr.2).map vO := by
            rw [hprs.1, List.map_map, pre_map]
            apply List.ext_getElem
            · simp
            · intro i h1 h2
              simp only [List.length_map, List.length_range] at h1
              simp only [List.getElem_map, List.getElem_range, List.getElem?_eq_getElem h1, Function.comp]
              split <;> rfl
          rw [e5] at h5
          generalize hrw : (prs.map fun pr => if pr.1 = 0 then none else some pr.2) = row at h5
          refine ⟨D5, _, rfl, .inl ⟨lst_of h5, fun l hl => ?_⟩⟩
          have hc5 : H5 c = some (.lst acc) := s5 _ _ hc3
          have nlc : c ≠ l := ne_of_none hc5 hl
          have B5 : BarAt H5 b := by
            obtain ⟨f, s, cc, hb, z1, z2⟩ := B3.ob
            exact ⟨f, s, cc, s5 _ _ hb, z1, z2⟩
          have nlb : l ≠ b := bar_ne B5 hl
          have lacc : acc.length ≤ 200 := by
            have := dps_len dacc
            rw [List.length_map] at this
            omega
          refine ⟨c, acc, _, rfl, rfl, by rw [upd_ne nlc]; exact hc5, szt (by omega), ?_⟩
          have kA : Keep b H2 (upd H5 l (.tup (row.map vO))) := (k4.trans (Keep.of s5)).trans (Keep.of (same_upd hl))
          refine ⟨_, _, rfl, keep_put (k3.trans kA) hc, bar_upd (bar_upd B5 nlb) nec, acc ++ [.ref l], tab ++ [row], upd_same, ?_, by rw [List.length_append, hlen]; rfl, fun rw' h => ?_⟩
          · have m1 : Same (del c (del b H2)) (del c (del b (upd H5 l (.tup (row.map vO))))) := del_mono kA
            have m2 : Same (del c (del b (upd H5 l (.tup (row.map vO))))) (del c (del b (upd (upd H5 l (.tup (row.map vO))) c (.lst (acc ++ [.ref l]))))) := by
              rw [del_upd nec]
              exact keep_upd
            rw [List.map_append]
            refine dps_mono m2 _ _ (dps_snoc (dps_mono m1 _ _ dacc) (.tup (tup_of ?_) (opts_dps row)))
            rw [del_ne (fun z => nlc z.symm), del_ne nlb]
            exact upd_same
          · rcases List.mem_append.mp h with h | h
            · exact hrow rw' h
            · rw [List.mem_singleton.mp h, ← hrw]
              refine ⟨by rw [List.length_map]; exact hpl, fun g hg => ?_⟩
              obtain ⟨pr, hpr, e⟩ := List.mem_map.mp hg
              by_cases z : pr.1 = 0
              · rw [if_pos z] at e
                cases e
              · rw [if_neg z] at e
                obtain rfl := Option.some.inj e
                exact hps pr hpr
    · rintro σ H2 ⟨y5, y6, rfl, k3, B2, acc, tab, hacc, dacc, hlen, hrow⟩
      refine ⟨_, rfl, c, _, rfl, .inl ⟨lst_of hacc, fun l hl => ?_⟩⟩
      have nlb : l ≠ b := bar_ne B2 hl
      have sl : Same (del b H2) (del b (upd H2 l (.tup acc))) := Keep.of (same_upd hl)
      refine k l tab _ ((k1.trans k3).trans sl) (bar_upd B2 nlb) (.tup (tup_of (by rw [del_ne nlb]; exact upd_same)) (dps_mono ((del_same c).trans sl) _ _ dacc)) ⟨hn, by omega, by omega, fun row h => ?_⟩ hlen
      rw [hlen]
      exact hrow row h
def spEnds (K : PySem.W.Frag) : Sp := fun vs H Q _ => ∃ (b : Addr) (s : Nat), vs = [.ref b, .int (s : Int)] ∧ BarAt H b ∧ 1 ≤ s ∧ s ≤ 200 ∧
  ∀ a ends H', Keep b H H' → BarAt H' b → Dp K (del b H') (.ref a) (dNats ends) → GoodE s ends → Q (.ref a) H'
theorem asc_of {ends : List Nat} (h : ends.Pairwise (· < ·)) : Asc (ends.map Int.ofNat) := by
  intro i x y hx hy
  rw [List.getElem?_map] at hx hy
  cases e1 : ends[i]? with
  | none => rw [e1] at hx; cases hx
  | some p =>
    cases e2 : ends[i + 1]? with
    | none => rw [e2] at hy; cases hy
    | some q =>
      rw [e1] at hx
      rw [e2] at hy
      obtain rfl := Option.some.inj hx
      obtain rfl := Option.some.inj hy
      have l1 := lt_of_get e1
      have l2 := lt_of_get e2
      have := List.pairwise_iff_getElem.mp h i (i + 1) l1 l2 (by omega)
      rw [List.getElem?_eq_getElem l1] at e1
      rw [List.getElem?_eq_getElem l2] at e2
      obtain rfl := Option.some.inj e1
      obtain rfl := Option.some.inj e2
      exact Int.ofNat_lt.mpr this
theorem ok_l_ends_for (T : Txt K mg A) (U : Funs K A fd) : FnOk P w K mg base CX0 7 A.l_ends_for fd.l_ends_for p_l_ends_for (spEnds K) := by
  have b_l_dip := U.b_l_dip
  have G_l_dip := ok_l_dip (P := P) (w := w) (base := base) T U
  have b_l_one_of := U.b_l_one_of
  have G_l_one_of := ok_l_one_of (P := P) (w := w) (base := base) T U
  refine U.F_l_ends_for.ok sc_l_ends_for (fun vs H Q E h => ?_) (fun cdv A0 outer s H vs Q E hr h => ?_)
  · obtain ⟨b, s0, rfl, _⟩ := h
    rfl
  · have hu := hu_of hr
    obtain ⟨b, s0, rfl, B, h1, h2, k⟩ := h
    refine ⟨_, (pss_cons (ps_set (i := 2) sc_l_ends_for.nd rfl (Or.inr rfl) (pe_call G_l_one_of (hr.mono (by decide)) (by rfl) T.m_l_one_of T.k_l_one_of b_l_one_of .nil pass0 (pa_cons (pv 0) (pa_cons (pe_lst (pa_cons pe_int (pa_cons pe_int (pa_cons pe_int (pa_cons pe_int pa_nil))))) pa_nil))))
       (pss_cons (ps_set (i := 3) sc_l_ends_for.nd rfl (Or.inr rfl) (pe_lc (own := [("_law_k", 4)]) (g := gName 4) (tt := tYes) (by rfl) sc_l_ends_for.nd (pi_range1 (by rfl) T.b_range (pa_cons (pv 1) pa_nil)) (blkOk_by (own := [("_law_k", 4)]) (by rfl)) (fun _ _ _ _ _ => (pg_name (i := 4) sc_l_ends_for.nd rfl (Or.inl rfl))) (fun _ _ _ _ _ => pts_nil) (fun _ _ _ _ _ => (pe_call G_l_dip (hr.mono (by decide)) (by rfl) T.m_l_dip T.k_l_dip b_l_dip .nil pass0 (pa_cons (pv 0) (pa_cons (pv 2) pa_nil))))))
       (pss_one (ps_ret (pe_callTy (w_tuple (K := K)) (by rfl) T.b_tuple (by decide +kernel) (pa_cons (pe_lc (own := [("_law_k", 4)]) (g := gName 4) (by rfl) sc_l_ends_for.nd (pi_range1 (by rfl) T.b_range (pa_cons (pv 1) pa_nil)) (blkOk_by (own := [("_law_k", 4)]) (by rfl)) (fun _ _ _ _ _ => (pg_name (i := 4) sc_l_ends_for.nd rfl (Or.inl rfl))) (fun _ _ _ _ _ => (pts_one (pt_cmpR op_eq (pe_ix (w_ixL (K := K)) (pv 3) (pv 4) (fun _ _ => rfl)) pe_int (nomark _)))) (fun _ _ _ _ _ => (pv 4))) pa_nil)))))), ?_⟩
    refine ⟨_, rfl, by show 4 ≤ sizeLine; decide, fun m hm => ?_⟩
    have nem : m ≠ b := bar_ne B hm
    have Bm := bar_upd (o := .lst [.int 2, .int 2, .int 3, .int 9]) B nem
    refine ⟨b, m, [.int 2, .int 2, .int 3, .int 9], rfl, Bm, lst_of (by rw [del_ne nem]; exact upd_same), by show 0 < 4; decide, by show 4 ≤ 1000; decide, fun x H1 hx kp B1 => ?_⟩
    obtain ⟨often, hb1, hb2, rfl⟩ : ∃ bare : Nat, 1 ≤ bare ∧ bare ≤ 1000 ∧ x = .int (bare : Int) := by
      simp at hx
      rcases hx with rfl | rfl | rfl
      · exact ⟨2, by decide, by decide, rfl⟩
      · exact ⟨3, by decide, by decide, rfl⟩
      · exact ⟨9, by decide, by decide, rfl⟩
    have k1 : Keep b H H1 := (Keep.of (same_upd hm)).trans kp
    refine ⟨_, rfl, (s0 : Int), rfl, by omega, by omega, fun D hD => ?_⟩
    rw [Int.toNat_natCast]
    have neD : D ≠ b := bar_ne B1 hD
    refine lc_range (lo := 0) (n := s0) (fun j H' => Keep b H1 H' ∧ BarAt H' b ∧ ∃ ns : List Int, H' D = some (.lst (ns.map V.int)) ∧ ns.length = j) ?_ ?_ ?_
    · exact ⟨Keep.of (same_upd hD), bar_upd B1 neD, [], upd_same, rfl⟩
    · rintro j H3 hj ⟨k4, B3, ns, hns, hl⟩
      refine ⟨rfl, yes_go ?_⟩
      refine ⟨_, rfl, _, rfl, b, often, rfl, B3, by omega, by omega, fun r H4 hr k5 B4 => ?_⟩
      have hD4 := k5.get neD hns
      refine ⟨_, hD4, szt (by rw [List.length_map, hl]; omega), keep_put (k4.trans k5) hD, bar_upd B4 neD, ns ++ [(r : Int)], ?_, by rw [List.length_append, hl]; rfl⟩
      rw [upd_same, List.map_append]
      rfl
    · rintro H3 ⟨k4, B3, ns, hns, hl⟩
      dsimp only
      refine g_ret (g_cb (cR (n := s0) (m := (s0 : Int)) (fun i => if ns.getD i 0 = 0 then [.int (i : Int)] else []) (by omega) (by omega) (fun R r => ?_) (fun i => by split <;> simp) (by omega) ?_ (fun i hi H5 R N s5 ry rn => ?_) (fun D5 H5 hD5 s5 h5 => ?_)))
      · exact ⟨_, rfl, r⟩
      · exact fun _ => rfl
      · refine ⟨_, rfl, _, rfl, D, _, _, _, rfl, rfl, lst_of (s5 _ _ hns), atI_nat (ints_get (by omega)), rfl, _, rfl, ?_⟩
        by_cases z : ns.getD i 0 = 0
        · have : decide (V.int (ns.getD i 0) = V.int 0) = true := by rw [z]; rfl
          rw [this]
          refine iteT ?_
          exact ⟨_, rfl, ry _ H5 (if_pos z) (Same.refl _)⟩
        · have : decide (V.int (ns.getD i 0) = V.int 0) = false := by
            rw [decide_eq_false]
            intro y
            injection y with y
            exact z y
          rw [this]
          refine iteF ?_
          exact rn H5 (if_neg z) (Same.refl _)
      · have e5 : pre (fun i => if ns.getD i 0 = 0 then [V.int (i : Int)] else []) s0 = ((List.range s0).filter fun i => decide (ns.getD i 0 = 0)).map fun (k : Nat) => V.int (k : Int) := by
          unfold pre
          induction List.range s0 with
          | nil => rfl
          | cons x f ih =>
            rw [List.flatMap_cons, ih, List.filter_cons]
            by_cases c : ns.getD x 0 = 0
            · rw [if_pos c, if_pos (decide_eq_true c)]
              rfl
            · rw [if_neg c, if_neg (by rw [decide_eq_false c]; exact Bool.false_ne_true)]
              rfl
        rw [e5] at h5
        generalize hen : ((List.range s0).filter fun i => decide (ns.getD i 0 = 0)) = ends at h5
        refine ⟨D5, _, rfl, .inl ⟨lst_of h5, fun l hl => ?_⟩⟩
        have B5 : BarAt H5 b := by
          obtain ⟨f, s, cc, hb, z1, z2⟩ := B3.ob
          exact ⟨f, s, cc, s5 _ _ hb, z1, z2⟩
        have nlb : l ≠ b := bar_ne B5 hl
        refine k l ends _ (((k1.trans k4).trans (Keep.of s5)).trans (Keep.of (same_upd hl))) (bar_upd B5 nlb) (.tup (tup_of (by rw [del_ne nlb]; exact upd_same)) ?_) ⟨?_, fun g hg => ?_⟩
        · have z := ints_dps (K := K) (H := del b (upd H5 l (.tup (ends.map fun (k : Nat) => V.int (k : Int))))) (ends.map Int.ofNat)
          rw [List.map_map, List.map_map] at z
          exact z
        · rw [← hen]
          exact asc_of (List.Pairwise.filter _ List.pairwise_lt_range)
        · rw [← hen] at hg
          exact List.mem_range.mp (List.mem_filter.mp hg).1
end K6


set_option Elab.async false
set_option linter.all false
set_option maxRecDepth 100000
set_option maxHeartbeats 4000000
namespace K6
open PySem PySem.Spec PyProof.Rows L2 Rw LamX
/-! ### what stands behind the making of a lambda -/
section
variable {K : PySem.W.Frag} {H H' : Hp}
theorem Rp.extN {v : V} {d : PyData} (s : ExtN H H') (h : Rp K H v d) : Rp K H' v d := Rp.ext (fun a o e n => s a o e n) d h
theorem BarAt.ext {b : Addr} (s : ExtN H H') (h : BarAt H b) : BarAt H' b :=
  let ⟨f, x, c, e, h1, h2⟩ := h.ob
  ⟨⟨f, x, c, s _ _ e (fun ps z => by cases z), h1, h2⟩⟩
end
variable {P : Program} {w : World} {K : PySem.W.Frag} {mg : Str → Option Value} {base : Heap} {A : Ad} {fd : Fds}
theorem bar_same {H H' : Hp} {b : Addr} (B : BarAt H b) (s : Same H H') : BarAt H' b := B.ext (ExtN.of s)
def okBig : Nat := 10 ^ 45
structure AnyD (d : PyData) : Prop where
  ok : okD okBig d = true
  wt : wt d ≤ 200
  dep : d.depth ≤ 2
def spAny (K : PySem.W.Frag) : Sp := fun vs H Q _ => ∃ b : Addr, vs = [.ref b] ∧ BarAt H b ∧ ∀ x d H', Keep b H H' → BarAt H' b → Rp K (del b H') x d → AnyD d → Q x H'
theorem ok_l_any (T : Txt K mg A) (U : Funs K A fd) : FnOk P w K mg base CX0 7 A.l_any fd.l_any p_l_any (spAny K) := by
  have b_l_one_of := U.b_l_one_of
  have G_l_one_of := ok_l_one_of (P := P) (w := w) (base := base) T U
  refine U.F_l_any.ok sc_l_any (fun vs H Q E h => ?_) (fun cdv A0 outer s H vs Q E hr h => ?_)
  · obtain ⟨b, rfl, _⟩ := h
    rfl
  · have hu := hu_of hr
    obtain ⟨b, rfl, B, k⟩ := h
    refine ⟨_, (pss_cons (ps_set (i := 1) sc_l_any.nd rfl (Or.inl rfl) (pe_lstN (pa_cons pe_non (pa_cons pe_bl (pa_cons pe_bl (pa_cons (pe_un un_neg pe_int) (pa_cons pe_int (pa_cons pe_int (pa_cons pe_int (pa_cons pe_int (pa_cons (pe_op op_pow pe_int pe_int) (pa_cons pe_str (pa_cons pe_str (pa_cons pe_str (pa_cons pe_str (pa_cons pe_str (pa_cons pe_str (pa_cons pe_str (pa_cons (pe_tup pa_nil) (pa_cons (pe_tup (pa_cons pe_int pa_nil)) (pa_cons (pe_tup (pa_cons pe_int (pa_cons pe_int pa_nil))) pa_nil)))))))))))))))))))))
       (pss_one (ps_ret (pe_call G_l_one_of (hr.mono (by decide)) (by rfl) T.m_l_one_of T.k_l_one_of b_l_one_of .nil pass0 (pa_cons (pv 0) (pa_cons (pe_op op_cat (pv 1) (pe_lstN (pa_cons (pe_tup (pa_cons pe_non pa_nil)) (pa_cons (pe_tup (pa_cons (pe_tup (pa_cons pe_non pa_nil)) pa_nil)) (pa_cons (pe_tup (pa_cons (pe_tup (pa_cons pe_int pa_nil)) (pa_cons (pe_tup (pa_cons pe_int pa_nil)) pa_nil))) (pa_cons (pe_lstN pa_nil) (pa_cons (pe_lstN (pa_cons pe_int pa_nil)) (pa_cons pe_dnewK (pa_cons (pe_disp (pps_cons pe_str pe_int pps_nil) (by rfl) (by rfl) (by simp) (by decide)) (pa_cons (pe_tup (pa_cons pe_bl pa_nil)) (pa_cons (pe_tup (pa_cons pe_str pa_nil)) pa_nil))))))))))) pa_nil)))))), ?_⟩
    refine ⟨1, rfl, 10, 45, rfl, rfl, ?_, Nat.zero_le _, fun p0 h0 => ?_⟩
    · exact ⟨by decide, by decide, by decide⟩
    refine ⟨by show 1 ≤ sizeLine; decide, fun p1 h1 => ?_⟩
    refine ⟨by show 2 ≤ sizeLine; decide, fun p2 h2 => ?_⟩
    refine ⟨by show 19 ≤ sizeLine; decide, fun m hm nm => ?_⟩
    refine ⟨_, rfl, _, rfl, by show 1 ≤ sizeLine; decide, fun q1 g1 => ?_⟩
    refine ⟨by show 1 ≤ sizeLine; decide, fun q2 g2 => ?_⟩
    refine ⟨by show 1 ≤ sizeLine; decide, fun q3 g3 => ?_⟩
    refine ⟨by show 1 ≤ sizeLine; decide, fun q4 g4 => ?_⟩
    refine ⟨by show 1 ≤ sizeLine; decide, fun q5 g5 => ?_⟩
    refine ⟨by show 2 ≤ sizeLine; decide, fun q6 g6 => ?_⟩
    refine ⟨Nat.zero_le _, fun q7 g7 l7 => ?_⟩
    refine ⟨by show 1 ≤ sizeLine; decide, fun q8 g8 l8 => ?_⟩
    refine fun q9 g9 => ?_
    refine fun q10 g10 => ?_
    refine ⟨upd_same, [(.inr "a", .int 0)], rfl, by decide, ?_⟩
    refine ⟨by show 1 ≤ sizeLine; decide, fun q11 g11 => ?_⟩
    refine ⟨by show 1 ≤ sizeLine; decide, fun q12 g12 => ?_⟩
    refine ⟨by show 9 ≤ sizeLine; decide, fun q13 g13 n13 => ?_⟩
    have t_p0 := same_upd (o := .tup []) h0
    have t_p1 := same_upd (o := .tup [.int 0]) h1
    have t_p2 := same_upd (o := .tup [.int 1, .int 0]) h2
    have t_m := same_upd (o := .lst [.non, .bl true, .bl false, .int (-1), .int 0, .int 1, .int 2, .int 9, .int (10 ^ 45), .str "", .str "a", .str "b", .str "i", .str "ab", .str "A", .str "a b", .ref p0, .ref p1, .ref p2]) hm
    have t_q1 := same_upd (o := .tup [.non]) g1
    have t_q2 := same_upd (o := .tup [.non]) g2
    have t_q3 := same_upd (o := .tup [.ref q2]) g3
    have t_q4 := same_upd (o := .tup [.int 0]) g4
    have t_q5 := same_upd (o := .tup [.int 1]) g5
    have t_q6 := same_upd (o := .tup [.ref q4, .ref q5]) g6
    have t_q7 := same_upd (o := .lst []) g7
    have t_q8 := same_upd (o := .lst [.int 0]) g8
    have t_q9 := same_upd (o := .dK []) g9
    have t_q10 := same_put (o := .dK (mergeK [] [(.inr "a", .int 0)])) (same_upd (o := .dK []) g10) g10
    have t_q11 := same_upd (o := .tup [.bl true]) g11
    have t_q12 := same_upd (o := .tup [.str "a"]) g12
    have t_q13 := same_upd (o := .lst [.ref q1, .ref q3, .ref q6, .ref q7, .ref q8, .ref q9, .ref q10, .ref q11, .ref q12]) g13
    have c_q13 := t_q13
    have c_q12 := t_q12.trans c_q13
    have c_q11 := t_q11.trans c_q12
    have c_q10 := t_q10.trans c_q11
    have c_q9 := t_q9.trans c_q10
    have c_q8 := t_q8.trans c_q9
    have c_q7 := t_q7.trans c_q8
    have c_q6 := t_q6.trans c_q7
    have c_q5 := t_q5.trans c_q6
    have c_q4 := t_q4.trans c_q5
    have c_q3 := t_q3.trans c_q4
    have c_q2 := t_q2.trans c_q3
    have c_q1 := t_q1.trans c_q2
    have c_m := t_m.trans c_q1
    have c_p2 := t_p2.trans c_m
    have c_p1 := t_p1.trans c_p2
    have c_p0 := t_p0.trans c_p1
    refine ⟨m, q13, _, _, rfl, rfl, c_q1 _ _ upd_same, upd_same, by show 19 + 9 ≤ sizeLine; decide, fun u hu2 => ?_⟩
    have cu := same_upd (o := .lst ([.non, .bl true, .bl false, .int (-1), .int 0, .int 1, .int 2, .int 9, .int (10 ^ 45), .str "", .str "a", .str "b", .str "i", .str "ab", .str "A", .str "a b", .ref p0, .ref p1, .ref p2] ++ [.ref q1, .ref q3, .ref q6, .ref q7, .ref q8, .ref q9, .ref q10, .ref q11, .ref q12])) hu2
    have B1 := bar_same B (c_p0.trans cu)
    have nb : ∀ {x : Addr}, H x = none → x ≠ b := fun h => bar_ne B h
    have n_p0 := nb h0
    have r_p1 := t_p0
    have n_p1 := nb (Same.free r_p1 h1)
    have r_p2 := r_p1.trans t_p1
    have n_p2 := nb (Same.free r_p2 h2)
    have r_m := r_p2.trans t_p2
    have n_m := nb (Same.free r_m hm)
    have r_q1 := r_m.trans t_m
    have n_q1 := nb (Same.free r_q1 g1)
    have r_q2 := r_q1.trans t_q1
    have n_q2 := nb (Same.free r_q2 g2)
    have r_q3 := r_q2.trans t_q2
    have n_q3 := nb (Same.free r_q3 g3)
    have r_q4 := r_q3.trans t_q3
    have n_q4 := nb (Same.free r_q4 g4)
    have r_q5 := r_q4.trans t_q4
    have n_q5 := nb (Same.free r_q5 g5)
    have r_q6 := r_q5.trans t_q5
    have n_q6 := nb (Same.free r_q6 g6)
    have r_q7 := r_q6.trans t_q6
    have n_q7 := nb (Same.free r_q7 g7)
    have r_q8 := r_q7.trans t_q7
    have n_q8 := nb (Same.free r_q8 g8)
    have r_q9 := r_q8.trans t_q8
    have n_q9 := nb (Same.free r_q9 g9)
    have r_q10 := r_q9.trans t_q9
    have n_q10 := nb (Same.free r_q10 g10)
    have r_q11 := r_q10.trans t_q10
    have n_q11 := nb (Same.free r_q11 g11)
    have r_q12 := r_q11.trans t_q11
    have n_q12 := nb (Same.free r_q12 g12)
    have r_q13 := r_q12.trans t_q12
    have n_q13 := nb (Same.free r_q13 g13)
    have n_u := nb (Same.free c_p0 hu2)
    have f_p0 := (Keep.of (b := b) (c_p1.trans cu)) _ _ ((del_ne n_p0).trans upd_same)
    have f_p1 := (Keep.of (b := b) (c_p2.trans cu)) _ _ ((del_ne n_p1).trans upd_same)
    have f_p2 := (Keep.of (b := b) (c_m.trans cu)) _ _ ((del_ne n_p2).trans upd_same)
    have f_q1 := (Keep.of (b := b) (c_q2.trans cu)) _ _ ((del_ne n_q1).trans upd_same)
    have f_q2 := (Keep.of (b := b) (c_q3.trans cu)) _ _ ((del_ne n_q2).trans upd_same)
    have f_q3 := (Keep.of (b := b) (c_q4.trans cu)) _ _ ((del_ne n_q3).trans upd_same)
    have f_q4 := (Keep.of (b := b) (c_q5.trans cu)) _ _ ((del_ne n_q4).trans upd_same)
    have f_q5 := (Keep.of (b := b) (c_q6.trans cu)) _ _ ((del_ne n_q5).trans upd_same)
    have f_q6 := (Keep.of (b := b) (c_q7.trans cu)) _ _ ((del_ne n_q6).trans upd_same)
    have f_q7 := (Keep.of (b := b) (c_q8.trans cu)) _ _ ((del_ne n_q7).trans upd_same)
    have f_q8 := (Keep.of (b := b) (c_q9.trans cu)) _ _ ((del_ne n_q8).trans upd_same)
    have f_q9 := (Keep.of (b := b) (c_q10.trans cu)) _ _ ((del_ne n_q9).trans upd_same)
    have f_q10 := (Keep.of (b := b) (c_q11.trans cu)) _ _ ((del_ne n_q10).trans upd_same)
    have f_q11 := (Keep.of (b := b) (c_q12.trans cu)) _ _ ((del_ne n_q11).trans upd_same)
    have f_q12 := (Keep.of (b := b) (c_q13.trans cu)) _ _ ((del_ne n_q12).trans upd_same)
    refine ⟨b, u, _, rfl, B1, lst_of ((del_ne n_u).trans upd_same), by show 0 < 28; decide, by show 28 ≤ 1000; decide, fun x H' hx kp B' => ?_⟩
    have kk : Keep b H H' := (Keep.of (c_p0.trans cu)).trans kp
    have fin : ∀ d, Rp K (del b (upd _ u (.lst ([.non, .bl true, .bl false, .int (-1), .int 0, .int 1, .int 2, .int 9, .int (10 ^ 45), .str "", .str "a", .str "b", .str "i", .str "ab", .str "A", .str "a b", .ref p0, .ref p1, .ref p2] ++ [.ref q1, .ref q3, .ref q6, .ref q7, .ref q8, .ref q9, .ref q10, .ref q11, .ref q12])))) x d → AnyD d → Q x H' := fun d o z => k x d H' kk B' (o.mono kp) z
    simp only [List.mem_append, List.mem_cons, List.not_mem_nil, or_false] at hx
    rcases hx with (rfl | rfl | rfl | rfl | rfl | rfl | rfl | rfl | rfl | rfl | rfl | rfl | rfl | rfl | rfl | rfl | rfl | rfl | rfl) | (rfl | rfl | rfl | rfl | rfl | rfl | rfl | rfl | rfl)
    · exact fin _ (.non) (by exact ⟨by decide +kernel, by decide +kernel, by decide +kernel⟩)
    · exact fin _ (.bl _) (by exact ⟨by decide +kernel, by decide +kernel, by decide +kernel⟩)
    · exact fin _ (.bl _) (by exact ⟨by decide +kernel, by decide +kernel, by decide +kernel⟩)
    · exact fin _ (.int _) (by exact ⟨by decide +kernel, by decide +kernel, by decide +kernel⟩)
    · exact fin _ (.int _) (by exact ⟨by decide +kernel, by decide +kernel, by decide +kernel⟩)
    · exact fin _ (.int _) (by exact ⟨by decide +kernel, by decide +kernel, by decide +kernel⟩)
    · exact fin _ (.int _) (by exact ⟨by decide +kernel, by decide +kernel, by decide +kernel⟩)
    · exact fin _ (.int _) (by exact ⟨by decide +kernel, by decide +kernel, by decide +kernel⟩)
    · exact fin _ (.int _) (by exact ⟨by decide +kernel, by decide +kernel, by decide +kernel⟩)
    · exact fin _ (.str _) (by exact ⟨by decide +kernel, by decide +kernel, by decide +kernel⟩)
    · exact fin _ (.str _) (by exact ⟨by decide +kernel, by decide +kernel, by decide +kernel⟩)
    · exact fin _ (.str _) (by exact ⟨by decide +kernel, by decide +kernel, by decide +kernel⟩)
    · exact fin _ (.str _) (by exact ⟨by decide +kernel, by decide +kernel, by decide +kernel⟩)
    · exact fin _ (.str _) (by exact ⟨by decide +kernel, by decide +kernel, by decide +kernel⟩)
    · exact fin _ (.str _) (by exact ⟨by decide +kernel, by decide +kernel, by decide +kernel⟩)
    · exact fin _ (.str _) (by exact ⟨by decide +kernel, by decide +kernel, by decide +kernel⟩)
    · exact fin _ (.tup (tup_of f_p0) .nil) (by exact ⟨by decide +kernel, by decide +kernel, by decide +kernel⟩)
    · exact fin _ (.tup (tup_of f_p1) (.cons (.int _) .nil)) (by exact ⟨by decide +kernel, by decide +kernel, by decide +kernel⟩)
    · exact fin _ (.tup (tup_of f_p2) (.cons (.int _) (.cons (.int _) .nil))) (by exact ⟨by decide +kernel, by decide +kernel, by decide +kernel⟩)
    · exact fin _ (.tup (tup_of f_q1) (.cons .non .nil)) (by exact ⟨by decide +kernel, by decide +kernel, by decide +kernel⟩)
    · exact fin _ (.tup (tup_of f_q3) (.cons (.tup (tup_of f_q2) (.cons .non .nil)) .nil)) (by exact ⟨by decide +kernel, by decide +kernel, by decide +kernel⟩)
    · exact fin _ (.tup (tup_of f_q6) (.cons (.tup (tup_of f_q4) (.cons (.int _) .nil)) (.cons (.tup (tup_of f_q5) (.cons (.int _) .nil)) .nil))) (by exact ⟨by decide +kernel, by decide +kernel, by decide +kernel⟩)
    · exact fin _ (.lst l7 f_q7 .nil) (by exact ⟨by decide +kernel, by decide +kernel, by decide +kernel⟩)
    · exact fin _ (.lst l8 f_q8 (.cons (.int _) .nil)) (by exact ⟨by decide +kernel, by decide +kernel, by decide +kernel⟩)
    · exact fin _ (.dct (kvs := []) f_q9) (by exact ⟨by decide +kernel, by decide +kernel, by decide +kernel⟩)
    · exact fin _ (.dct (kvs := [(.inr "a", 0)]) f_q10) (by exact ⟨by decide +kernel, by decide +kernel, by decide +kernel⟩)
    · exact fin _ (.tup (tup_of f_q11) (.cons (.bl _) .nil)) (by exact ⟨by decide +kernel, by decide +kernel, by decide +kernel⟩)
    · exact fin _ (.tup (tup_of f_q12) (.cons (.str _) .nil)) (by exact ⟨by decide +kernel, by decide +kernel, by decide +kernel⟩)
end K6


set_option Elab.async false
set_option linter.all false
set_option maxRecDepth 100000
set_option maxHeartbeats 4000000
namespace K6
open PySem PySem.Spec PyProof.Rows L2 Rw LamX
variable {P : Program} {w : World} {K : PySem.W.Frag} {mg : Str → Option Value} {base : Heap} {A : Ad} {fd : Fds}
/-! ### one thing turned about -/
theorem dep_iff {n : Nat} : ∀ {ds : List PyData}, PyData.depthAll ds ≤ n ↔ ∀ d ∈ ds, d.depth ≤ n
  | [] => by simp [PyData.depthAll]
  | d :: ds => by
    simp only [PyData.depthAll, List.forall_mem_cons]
    rw [← dep_iff (ds := ds)]
    omega
theorem sqT_del {b p : Addr} {H : Hp} {xs : List V} (B : BarAt H b) (h : SqT K H p xs) : SqT K (del b H) p xs := by
  obtain ⟨f, s, c, hb, _⟩ := B.ob
  have key : ∀ o, H p = some o → (∀ zs, o ≠ .lst zs) → del b H p = some o := fun o e n => by
    rw [del_ne]
    · exact e
    · intro z
      rw [z, hb] at e
      exact n _ (Option.some.inj e).symm
  rcases h with (h | ⟨o, h⟩) | h
  · exact .inl (.inl (key _ h fun zs z => by cases z))
  · exact .inl (.inr ⟨o, key _ h fun zs z => by cases z⟩)
  · exact .inr h
theorem rps_take {H : Hp} : ∀ {vs : List V} {ds : List PyData} (n : Nat), RpAll K H vs ds → RpAll K H (vs.take n) (ds.take n)
  | _, _, 0, _ => .nil
  | _, [], n + 1, h => by cases h; exact .nil
  | _, d :: ds, n + 1, h => by
    cases h with
    | cons a b => exact .cons a (rps_take n b)
theorem rps_drop {H : Hp} : ∀ {vs : List V} {ds : List PyData} (n : Nat), RpAll K H vs ds → RpAll K H (vs.drop n) (ds.drop n)
  | _, _, 0, h => h
  | _, [], n + 1, h => by cases h; exact .nil
  | _, d :: ds, n + 1, h => by
    cases h with
    | cons a b => exact rps_drop n b
theorem rps_rev {H : Hp} : ∀ {vs : List V} {ds : List PyData}, RpAll K H vs ds → RpAll K H vs.reverse ds.reverse
  | _, [], h => by cases h; exact .nil
  | _, d :: ds, h => by
    cases h with
    | cons a b =>
      rw [List.reverse_cons, List.reverse_cons]
      exact rps_app (rps_rev b) (.cons a .nil)
theorem cut_take {xs : List V} {g : Nat} (h : g ≤ xs.length) : cutV xs none (some (g : Int)) = xs.take g := by
  unfold cutV
  rw [HT.sIx_nat, HT.sIx_none, Nat.min_eq_left h, List.drop_zero, Nat.sub_zero]
theorem cut_drop {xs : List V} {g : Nat} (h : g ≤ xs.length) : cutV xs (some (g : Int)) none = xs.drop g := by
  unfold cutV
  rw [HT.sIx_nat, HT.sIx_none, Nat.min_eq_left h, ← List.length_drop, List.take_length]
structure TwD (B : Nat) (d d' : PyData) : Prop where
  ok : okD (B + 7) d' = true
  wt : wt d' ≤ 2 * wt d + 200
  dep : d'.depth ≤ d.depth + 2
theorem AnyD.tw {B : Nat} {d d' : PyData} (hB : okBig ≤ B) (h : AnyD d') : TwD B d d' :=
  ⟨okD_mono (Nat.le_trans hB (Nat.le_add_right _ _)) _ h.ok, by have := h.wt; omega, by have := h.dep; omega⟩
/-- one member put in place of another, or twice, or not at all -/
theorem tw_put {B n : Nat} {ds es : List PyData} {e : PyData} (he : ds[n]? = some e) (ok : okD B (.tuple ds) = true) (o2 : okAll (B + 7) es = true) (w2 : wtAll es ≤ 2 * (wt e + 2) + 200) (d2 : PyData.depthAll es ≤ e.depth + 2) :
    TwD B (.tuple ds) (.tuple (ds.take n ++ es ++ ds.drop (n + 1))) := by
  obtain ⟨hn, rfl⟩ := List.getElem?_eq_some_iff.mp he
  have sp : ds = ds.take n ++ [ds[n]] ++ ds.drop (n + 1) := by
    rw [List.append_assoc, List.singleton_append, List.getElem_cons_drop, List.take_append_drop]
  have o1 := okAll_mono (show B ≤ B + 7 by omega) ds (by simpa only [okD] using ok)
  have w1 : wtAll ds = wtAll (ds.take n) + (wt ds[n] + 2) + wtAll (ds.drop (n + 1)) := by
    conv => lhs; rw [sp]
    rw [wtAll_app, wtAll_app]
    simp only [wtAll]
    try omega
  have em := List.getElem_mem hn
  rw [okAll_iff] at o1 o2
  refine ⟨?_, ?_, ?_⟩
  · simp only [okD]
    rw [okAll_iff]
    intro d hd
    rw [List.append_assoc, List.mem_append, List.mem_append] at hd
    rcases hd with h | h | h
    · exact o1 d (List.mem_of_mem_take h)
    · exact o2 d h
    · exact o1 d (List.mem_of_mem_drop h)
  · simp only [wt]
    rw [wtAll_app, wtAll_app]
    omega
  · have de : (ds[n]).depth ≤ PyData.depthAll ds := dep_iff.mp (Nat.le_refl _) _ em
    simp only [PyData.depth]
    have : PyData.depthAll (ds.take n ++ es ++ ds.drop (n + 1)) ≤ PyData.depthAll ds + 2 := by
      rw [dep_iff]
      intro d hd
      rw [List.append_assoc, List.mem_append, List.mem_append] at hd
      have up : ∀ d ∈ ds, d.depth ≤ PyData.depthAll ds + 2 := fun d h => Nat.le_trans (dep_iff.mp (Nat.le_refl _) _ h) (by omega)
      rcases hd with h | h | h
      · exact up d (List.mem_of_mem_take h)
      · have := dep_iff.mp d2 d h
        omega
      · exact up d (List.mem_of_mem_drop h)
    omega
def spTwist (K : PySem.W.Frag) (m : Nat) : Sp := fun vs H Q _ => ∃ (b : Addr) (v : V) (d : PyData) (B : Nat), vs = [.ref b, v] ∧ BarAt H b ∧ Rp K (del b H) v d ∧ okBig ≤ B ∧ okD B d = true ∧ wt d ≤ 20000 ∧ d.depth ≤ m ∧
  ∀ v' d' H', Keep b H H' → BarAt H' b → Rp K (del b H') v' d' → TwD B d d' → Q v' H'
theorem ok_twist_of (T : Txt K mg A) (U : Funs K A fd) (m : Nat) {spp : Sp} (G_l_twist : FnOk P w K mg base CX0 (3 * m + 11) A.l_twist fd.l_twist p_l_twist spp) (himp : ∀ e, m = e + 1 → spp = spTwist K e) :
    FnOk P w K mg base CX0 (3 * m + 14) A.l_twist fd.l_twist p_l_twist (spTwist K m) := by
  have G_l_any := ok_l_any (P := P) (w := w) (base := base) T U
  have b_l_any := U.b_l_any
  have G_l_dip := ok_l_dip (P := P) (w := w) (base := base) T U
  have b_l_dip := U.b_l_dip
  have G_l_one_of := ok_l_one_of (P := P) (w := w) (base := base) T U
  have b_l_one_of := U.b_l_one_of
  have b_l_twist := U.b_l_twist
  refine U.F_l_twist.ok sc_l_twist (fun vs H Q E h => ?_) (fun cdv A0 outer s H vs Q E hr h => ?_)
  · obtain ⟨b, v, d, B, rfl, _⟩ := h
    rfl
  · have hu := hu_of hr
    obtain ⟨b, v, d, B, rfl, BA, hd, hB, hok, hwt, hdep, k⟩ := h
    refine ⟨_, (pss_cons (ps_set (i := 2) sc_l_twist.nd rfl (Or.inl rfl) (pe_call G_l_dip (hr.mono (by omega)) (by rfl) T.m_l_dip T.k_l_dip b_l_dip .nil pass0 (pa_cons (pv 0) (pa_cons pe_int pa_nil))))
       (pss_cons (ps_if (pt_cmpR op_eq (pv 2) pe_int (nomark _)) (pss_one (ps_ret (pe_call G_l_any (hr.mono (by omega)) (by rfl) T.m_l_any T.k_l_any b_l_any .nil pass0 (pa_cons (pv 0) pa_nil)))) pss_nil)
       (pss_cons (ps_if (PW.pt (pw_and (pt_val (pe_callB (w_isi (K := K)) (by rfl) T.b_isinstance (by decide +kernel) (pa_cons (pv 1) (pa_cons (pe_bltn (v := .ty "tuple") (u := .type "tuple") (by rfl) T.b_tuple (by decide +kernel) rfl) pa_nil)))) (pw_and1 (pt_cmpR op_gt (pe_callB (w_len (K := K)) (by rfl) T.b_len (by decide +kernel) (pa_cons (pv 1) pa_nil)) pe_int (nomark _))))) (pss_cons (ps_set (i := 3) sc_l_twist.nd rfl (Or.inl rfl) (pe_call G_l_dip (hr.mono (by omega)) (by rfl) T.m_l_dip T.k_l_dip b_l_dip .nil pass0 (pa_cons (pv 0) (pa_cons (pe_callB (w_len (K := K)) (by rfl) T.b_len (by decide +kernel) (pa_cons (pv 1) pa_nil)) pa_nil))))
       (pss_cons (ps_if (pt_cmpR op_lt (pv 2) pe_int (nomark _)) (pss_one (ps_ret (pe_op (op_catZ (K := K)) (pe_op (op_catZ (K := K)) (pe_slice (w_slT (K := K)) (pv 1) po_none (po_some (pv 3))) (pe_op (op_repTZ (K := K)) (pe_tup (pa_cons (pe_ix (w_ixT (K := K)) (pv 1) (pv 3) (fun _ _ => rfl)) pa_nil)) (pe_op op_sub (pe_op op_mul pe_int (pv 2)) pe_int))) (pe_slice (w_slT (K := K)) (pv 1) (po_some (pe_op op_add (pv 3) pe_int)) po_none)))) pss_nil)
       (pss_cons (ps_if (pt_cmpR op_eq (pv 2) pe_int (nomark _)) (pss_one (ps_ret (pe_ifExp (pt_cmpR op_gt (pv 3) pe_int (nomark _)) (pe_revT (pv 1)) (pe_callTy (w_listN (K := K)) (by rfl) T.b_list (by decide +kernel) (pa_cons (pv 1) pa_nil))))) pss_nil)
       (pss_one (ps_ret (pe_op (op_catZ (K := K)) (pe_op (op_catZ (K := K)) (pe_slice (w_slT (K := K)) (pv 1) po_none (po_some (pv 3))) (pe_tup (pa_cons (pe_call G_l_twist (hr.mono (by omega)) (by rfl) T.m_l_twist T.k_l_twist b_l_twist .nil pass0 (pa_cons (pv 0) (pa_cons (pe_ix (w_ixT (K := K)) (pv 1) (pv 3) (fun _ _ => rfl)) pa_nil))) pa_nil))) (pe_slice (w_slT (K := K)) (pv 1) (po_some (pe_op op_add (pv 3) pe_int)) po_none))))))) pss_nil)
       (pss_cons (ps_if (PW.pt (pw_and (pt_val (pe_callB (w_isi (K := K)) (by rfl) T.b_isinstance (by decide +kernel) (pa_cons (pv 1) (pa_cons (pe_bltn (v := .ty "int") (u := .type "int") (by rfl) T.b_int (by decide +kernel) rfl) pa_nil)))) (pw_and1 (pt_not (pt_val (pe_callB (w_isi (K := K)) (by rfl) T.b_isinstance (by decide +kernel) (pa_cons (pv 1) (pa_cons (pe_bltn (v := .ty "bool") (u := .type "bool") (by rfl) T.b_bool (by decide +kernel) rfl) pa_nil)))))))) (pss_one (ps_ret (pe_op op_add (pv 1) (pe_call G_l_one_of (hr.mono (by omega)) (by rfl) T.m_l_one_of T.k_l_one_of b_l_one_of .nil pass0 (pa_cons (pv 0) (pa_cons (pe_lst (pa_cons pe_int (pa_cons (pe_un un_neg pe_int) (pa_cons pe_int (pa_cons pe_int pa_nil))))) pa_nil)))))) pss_nil)
       (pss_one (ps_ret (pe_call G_l_any (hr.mono (by omega)) (by rfl) T.m_l_any T.k_l_any b_l_any .nil pass0 (pa_cons (pv 0) pa_nil)))))))), ?_⟩
    refine ⟨_, rfl, b, 7, rfl, BA, by decide, by decide, fun wy H1 hwy k1 B1 => ?_⟩
    have hd1 : Rp K (del b H1) v d := hd.mono k1
    have hd1' : Rp K H1 v d := hd1.mono (del_same b)
    refine ⟨_, rfl, rfl, _, rfl, ?_⟩
    have anyR : ∀ H2, Keep b H H2 → BarAt H2 b → spAny K [V.ref b] H2 Q (fun _ _ _ => False) := fun H2 k2 B2 => ⟨b, rfl, B2, fun x dx H3 k3 B3 hx ha => k x dx H3 (k2.trans k3) B3 hx (ha.tw hB)⟩
    by_cases c0 : wy = 0
    · subst c0
      rw [decide_eq_true (show V.int ((0 : Nat) : Int) = V.int 0 from rfl)]
      exact iteT ⟨_, rfl, anyR H1 k1 B1⟩
    · rw [decide_eq_false (show ¬ V.int (wy : Int) = V.int 0 from fun z => by have := V.int.inj z; omega)]
      refine iteF (g_next ?_)
      dsimp only
      have isNo : isI d = false → isN d = false ∨ isBl d = true := fun z => by
        rw [isI_of] at z
        cases e1 : isN d with
        | false => exact .inl rfl
        | true =>
          rw [e1] at z
          refine .inr ?_
          cases e2 : isBl d with
          | true => rfl
          | false => rw [e2] at z; cases z
      rcases tup_or hd1 with ⟨a, xs, ds, rfl, rfl, ha, hds⟩ | hno
      · have hl := rps_len hds
        have ha1 : SqT K H1 a xs := sqT_mono (del_same b) ha
        have h2 := wt_len ds
        have hz : xs.length ≤ 10000 := by
          simp only [wt] at hwt
          omega
        refine ⟨_, rfl, _, .ty "tuple", .type "tuple", .type "tuple", true, rfl, .ty _, hd1'.ty, kitT (.tuple ds), true, rfl, ?_⟩
        refine ⟨_, rfl, _, _, rfl, .inr ⟨_, ha1, rfl⟩, _, _, rfl, rfl, _, rfl, ?_⟩
        by_cases ce : xs = []
        · subst ce
          refine iteF (g_next ?_)
          refine ⟨_, rfl, _, .ty "int", .type "tuple", .type "int", false, rfl, .ty _, hd1'.ty, kitN (.tuple ds), false, rfl, ?_⟩
          refine iteF (g_next ?_)
          exact ⟨_, rfl, anyR H1 k1 B1⟩
        · have hpos : 0 < xs.length := List.length_pos_iff.mpr ce
          rw [decide_eq_true (show (0 : Int) < (xs.length : Int) by omega)]
          refine iteT ?_
          refine ⟨_, rfl, _, rfl, _, _, rfl, .inr ⟨_, ha1, rfl⟩, b, xs.length, rfl, B1, hpos, by omega, fun ix H2 hix k2 B2 => ?_⟩
          have had2 : SqT K (del b H2) a xs := sqT_mono k2 ha
          have ha2 : SqT K H2 a xs := sqT_mono (del_same b) had2
          have hds2 := rps_mono k2 hds
          have hx : xs[ix]? = some xs[ix] := List.getElem?_eq_getElem hix
          obtain ⟨e, he, hxe⟩ := rps_get hds2 hx
          generalize xs[ix] = x at hx hxe
          have nw1 : ¬ (HT.sIx xs.length 0 none = 0 ∧ HT.sIx xs.length xs.length (some (ix : Int)) = xs.length) := by
            rw [HT.sIx_nat]
            omega
          have nw2 : ¬ (HT.sIx xs.length 0 (some ((ix : Int) + 1)) = 0 ∧ HT.sIx xs.length xs.length none = xs.length) := by
            rw [show ((ix : Int) + 1) = ((ix + 1 : Nat) : Int) by omega, HT.sIx_nat]
            omega
          have ct : cutV xs none (some (ix : Int)) = xs.take ix := cut_take (by omega)
          have okds := okAll_mono (show B ≤ B + 7 by omega) ds (by simpa only [okD] using hok)
          have em := List.mem_of_getElem? he
          have oke : okD B e = true := okAll_iff.mp (by simpa only [okD] using hok) e em
          have wte := wt_mem em
          have dpe : e.depth ≤ PyData.depthAll ds := dep_iff.mp (Nat.le_refl _) e em
          have wtu : wt (.tuple ds) = 5 + wtAll ds := rfl
          have cd : cutV xs (some ((ix : Int) + 1)) none = xs.drop (ix + 1) := by
            rw [show ((ix : Int) + 1) = ((ix + 1 : Nat) : Int) by omega]
            exact cut_drop (by omega)
          have fin : ∀ (p : Addr) (ys : List V) (es : List PyData) (H6 : Hp), Keep b H2 H6 → BarAt H6 b → SqT K H6 p ((cutV xs none (some (ix : Int)) ++ ys) ++ cutV xs (some ((ix : Int) + 1)) none) → RpAll K (del b H6) ys es → okAll (B + 7) es = true → wtAll es ≤ 2 * (wt e + 2) + 200 → PyData.depthAll es ≤ e.depth + 2 → Q (.ref p) H6 := by
            intro p ys es H6 k6 B6 t6 r6 o6 w6 d6
            rw [ct, cd] at t6
            have hds6 := rps_mono k6 hds2
            exact k (.ref p) _ H6 ((k1.trans k2).trans k6) B6 (.tup (sqT_del B6 t6) (rps_app (rps_app (rps_take ix hds6) r6) (rps_drop (ix + 1) hds6))) (tw_put he hok o6 w6 d6)
          have c1l := cutV_length xs none (some (ix : Int))
          have c2l := cutV_length xs (some ((ix : Int) + 1)) none
          refine ⟨_, rfl, _, _, rfl, rfl, _, rfl, ?_⟩
          by_cases c3 : wy < 3
          · rw [decide_eq_true (show (wy : Int) < 3 by omega)]
            refine iteT ?_
            refine ⟨_, rfl, _, rfl, (ix : Int), rfl, a, xs, rfl, ha2, nw1, fun p1 g1 => ?_⟩
            have s1 := same_upd (o := .tup (cutV xs none (some (ix : Int)))) g1
            refine ⟨_, rfl, _, rfl, a, xs, _, x, rfl, rfl, sqT_mono s1 ha2, atI_nat hx, by show 1 ≤ sizeLine; decide, fun p2 g2 => ?_⟩
            have s2 := same_upd (o := .tup [x]) g2
            have up1 : upd (upd H2 p1 (.tup (cutV xs none (some (ix : Int))))) p2 (.tup [x]) p1 = some (.tup (cutV xs none (some (ix : Int)))) := s2 _ _ upd_same
            refine ⟨_, rfl, _, _, rfl, rfl, by unfold CMul; left; decide, _, _, rfl, rfl, ?_⟩
            refine ⟨p2, _, [x], rfl, rfl, tup_of upd_same, by simp, by omega, by omega, by show 1 ≤ 1000; decide, fun p3 H5 s5 t5 => ?_⟩
            have two : ∃ (n : Nat), (List.replicate (2 * (wy : Int) - 2).toNat [x]).flatten = List.replicate n x ∧ n ≤ 2 ∧ (n = 0 ∨ n = 2) := by
              have : wy = 1 ∨ wy = 2 := by omega
              rcases this with rfl | rfl
              · exact ⟨0, rfl, by decide, .inl rfl⟩
              · exact ⟨2, rfl, by decide, .inr rfl⟩
            obtain ⟨n, en, hn, hn2⟩ := two
            rw [en] at t5
            refine ⟨p1, p3, _, _, rfl, rfl, tup_of (s5 _ _ up1), t5, szl (by rw [List.length_replicate]; omega), fun p4 H6 s6 t6 => ?_⟩
            have k6 : Keep b H2 H6 := Keep.of (((s1.trans s2).trans s5).trans s6)
            have B6 : BarAt H6 b := bar_same B2 (((s1.trans s2).trans s5).trans s6)
            refine ⟨_, rfl, _, rfl, _, _, rfl, rfl, _, rfl, a, xs, rfl, sqT_mono (del_same b) (sqT_mono k6 had2), nw2, fun p5 g5 => ?_⟩
            have s7 := same_upd (o := .tup (cutV xs (some ((ix : Int) + 1)) none)) g5
            refine ⟨p4, p5, _, _, rfl, rfl, sqT_mono s7 t6, tup_of upd_same, szl (by rw [List.length_append, List.length_replicate]; omega), fun p6 H8 s8 t8 => ?_⟩
            have k8 : Keep b H2 H8 := k6.trans (Keep.of (s7.trans s8))
            have hx8 := hxe.mono k8
            refine fin p6 _ (List.replicate n e) H8 k8 (bar_same B6 (s7.trans s8)) t8 ?_ ?_ ?_ ?_
            · rcases hn2 with rfl | rfl
              · exact .nil
              · exact .cons hx8 (.cons hx8 .nil)
            · rw [okAll_iff]
              intro z hz
              obtain rfl := List.eq_of_mem_replicate hz
              exact okD_mono (by omega) _ oke
            · rcases hn2 with rfl | rfl
              · exact Nat.zero_le _
              · simp only [List.replicate, wtAll]
                omega
            · rw [dep_iff]
              intro z hz
              obtain rfl := List.eq_of_mem_replicate hz
              omega
          · rw [decide_eq_false (show ¬ (wy : Int) < 3 by omega)]
            refine iteF (g_next ?_)
            dsimp only
            refine ⟨_, rfl, rfl, _, rfl, ?_⟩
            by_cases c4 : wy = 3
            · rw [decide_eq_true (show V.int (wy : Int) = V.int 3 by rw [c4]; rfl)]
              refine iteT ?_
              refine ⟨_, rfl, _, _, rfl, rfl, _, rfl, ?_⟩
              by_cases c5 : 0 < ix
              · rw [decide_eq_true (show (0 : Int) < (ix : Int) by omega)]
                refine iteT ?_
                refine ⟨_, rfl, a, xs, rfl, ha2, fun p1 g1 => ?_⟩
                have n1 := bar_ne B2 g1
                refine k (.ref p1) (.tuple ds.reverse) _ ((k1.trans k2).trans (Keep.of (same_upd g1))) (bar_upd B2 n1) (.tup (tup_of ((del_ne n1).trans upd_same)) (rps_rev (rps_mono (Keep.of (same_upd g1)) hds2))) ⟨?_, ?_, ?_⟩
                · simp only [okD]
                  rw [okAll_iff]
                  intro z hz
                  exact okAll_iff.mp okds z (List.mem_reverse.mp hz)
                · simp only [wt]
                  rw [wtAll_rev]
                  omega
                · simp only [PyData.depth]
                  have : PyData.depthAll ds.reverse ≤ PyData.depthAll ds := by
                    rw [dep_iff]
                    intro z hz
                    exact dep_iff.mp (Nat.le_refl _) z (List.mem_reverse.mp hz)
                  omega
              · rw [decide_eq_false (show ¬ (0 : Int) < (ix : Int) by omega)]
                refine iteF ?_
                refine ⟨_, rfl, a, xs, rfl, ha2, fun p1 g1 l1 => ?_⟩
                have n1 := bar_ne B2 g1
                refine k (.ref p1) (.list ds) _ ((k1.trans k2).trans (Keep.of (same_upd g1))) (bar_upd B2 n1) (.lst l1 ((del_ne n1).trans upd_same) (rps_mono (Keep.of (same_upd g1)) hds2)) ⟨?_, ?_, ?_⟩
                · simp only [okD]
                  exact okds
                · simp only [wt]
                  omega
                · simp only [PyData.depth]
                  omega
            · rw [decide_eq_false (show ¬ V.int (wy : Int) = V.int 3 from fun z => by have := V.int.inj z; omega)]
              refine iteF (g_next ?_)
              dsimp only
              refine ⟨_, rfl, _, rfl, (ix : Int), rfl, a, xs, rfl, ha2, nw1, fun p1 g1 => ?_⟩
              have n1 := bar_ne B2 g1
              have s1 := same_upd (o := .tup (cutV xs none (some (ix : Int)))) g1
              have B3 := bar_upd (o := .tup (cutV xs none (some (ix : Int)))) B2 n1
              obtain ⟨m', rfl⟩ : ∃ m', m = m' + 1 := ⟨m - 1, by simp only [PyData.depth] at hdep; omega⟩
              obtain rfl := himp m' rfl
              refine ⟨_, rfl, _, rfl, _, rfl, a, xs, _, x, rfl, rfl, sqT_mono s1 ha2, atI_nat hx, ?_⟩
              refine ⟨b, x, e, B, rfl, B3, hxe.mono (Keep.of s1), hB, oke, by omega, by simp only [PyData.depth] at hdep; omega, fun x' e' H4 k4 B4 rx tw => ?_⟩
              have up1 := k4.get n1 upd_same
              refine ⟨by show 1 ≤ sizeLine; decide, fun p2 g2 => ?_⟩
              have s2 := same_upd (o := .tup [x']) g2
              refine ⟨p1, p2, _, _, rfl, rfl, tup_of (s2 _ _ up1), tup_of upd_same, szl (by show _ + 1 ≤ _; omega), fun p4 H6 s6 t6 => ?_⟩
              have s26 := s2.trans s6
              have k6 : Keep b H2 H6 := ((Keep.of s1).trans k4).trans (Keep.of s26)
              have B6 : BarAt H6 b := bar_same B4 s26
              refine ⟨_, rfl, _, rfl, _, _, rfl, rfl, _, rfl, a, xs, rfl, sqT_mono (del_same b) (sqT_mono k6 had2), nw2, fun p5 g5 => ?_⟩
              have s7 := same_upd (o := .tup (cutV xs (some ((ix : Int) + 1)) none)) g5
              refine ⟨p4, p5, _, _, rfl, rfl, sqT_mono s7 t6, tup_of upd_same, szl (by rw [List.length_append]; show _ + 1 + _ ≤ _; omega), fun p6 H8 s8 t8 => ?_⟩
              have k8 : Keep b H2 H8 := k6.trans (Keep.of (s7.trans s8))
              refine fin p6 _ [e'] H8 k8 (bar_same B6 (s7.trans s8)) t8 (.cons (rx.mono ((Keep.of s26).trans (Keep.of (s7.trans s8)))) .nil) ?_ ?_ ?_
              · simp only [okAll, tw.ok]
                rfl
              · have := tw.wt
                simp only [wtAll]
                omega
              · have := tw.dep
                simp only [PyData.depthAll]
                omega
      · have fT := kitT (K := K) d
        rw [hno] at fT
        refine ⟨_, rfl, v, .ty "tuple", .type (tyS d), .type "tuple", false, rfl, .ty _, hd1'.ty, fT, false, rfl, ?_⟩
        refine iteF (g_next ?_)
        dsimp only
        refine ⟨_, rfl, v, .ty "int", .type (tyS d), .type "int", isN d, rfl, .ty _, hd1'.ty, kitN d, isN d, rfl, ?_⟩
        cases ei : isN d with
        | false =>
          refine iteF (g_next ?_)
          exact ⟨_, rfl, anyR H1 k1 B1⟩
        | true =>
          refine iteT ?_
          refine ⟨_, rfl, v, .ty "bool", .type (tyS d), .type "bool", isBl d, rfl, .ty _, hd1'.ty, kitBl d, isBl d, rfl, ?_⟩
          cases eb : isBl d with
          | true =>
            refine iteF (g_next ?_)
            exact ⟨_, rfl, anyR H1 k1 B1⟩
          | false =>
            refine iteT ?_
            cases hd1 with
            | int i =>
              refine ⟨_, rfl, _, rfl, ?_⟩
              refine ⟨_, rfl, by show 4 ≤ sizeLine; decide, fun p g => ?_⟩
              have n1 := bar_ne B1 g
              refine ⟨b, p, [.int 1, .int (-1), .int 7, .int 0], rfl, bar_upd B1 n1, lst_of ((del_ne n1).trans upd_same), by decide, by decide, fun y H2 hy k2 B2 => ?_⟩
              obtain ⟨j, rfl, hj⟩ : ∃ j : Int, y = .int j ∧ j.natAbs ≤ 7 := by
                simp at hy
                rcases hy with rfl | rfl | rfl | rfl
                · exact ⟨1, rfl, by decide⟩
                · exact ⟨-1, rfl, by decide⟩
                · exact ⟨7, rfl, by decide⟩
                · exact ⟨0, rfl, by decide⟩
              refine ⟨i, j, rfl, rfl, ?_⟩
              refine k _ (.int (i + j)) H2 ((k1.trans (Keep.of (same_upd g))).trans k2) B2 (.int _) ⟨?_, ?_, ?_⟩
              · simp only [okD, decide_eq_true_eq] at hok ⊢
                omega
              · simp only [wt]
                omega
              · simp only [PyData.depth]
                omega
            | bl _ => cases eb
            | _ => cases ei
theorem ok_noAt {n : Nat} {x : Addr} {f : FuncData} {ps : List Str} : FnOk P w K mg base CX0 n x f ps (fun _ _ _ _ => False) where
  len := fun vs H Q E q => q.elim
  run := fun A0 outer s H args us vs Q E hr he hb hv q => q.elim
theorem ok_twist_all (T : Txt K mg A) (U : Funs K A fd) : ∀ m, FnOk P w K mg base CX0 (3 * m + 14) A.l_twist fd.l_twist p_l_twist (spTwist K m)
  | 0 => ok_twist_of T U 0 ok_noAt fun e h => by omega
  | m + 1 => ok_twist_of T U (m + 1) (ok_twist_all T U m) fun e h => Nat.succ.inj h ▸ rfl
theorem ok_l_twist (T : Txt K mg A) (U : Funs K A fd) : FnOk P w K mg base CX0 50 A.l_twist fd.l_twist p_l_twist (spTwist K 12) := ok_twist_all T U 12
end K6

set_option Elab.async false
set_option linter.all false
set_option maxRecDepth 100000
set_option maxHeartbeats 4000000
namespace K6
open PySem PySem.Spec PyProof.Rows L2 Rw LamX
variable {P : Program} {w : World} {K : PySem.W.Frag} {mg : Str → Option Value} {base : Heap} {A : Ad} {fd : Fds}
/-- what can be shown -/
structure ShowS (d : PyData) : Prop where
  sh : d.showable = true
  dep : d.depth ≤ 10
  len : d.shown.length ≤ 60000
  lay : PyData.canLay0 (.str d.shown) = true
/-- the list with the name of an error and what it has -/
def ToldE (H : Hp) (n : Str) (z : Str) (Q : VK) : Prop := ∀ p H', H p = none → Same H H' → H' p = some (.lst [.str n, .str z]) → Q (.ref p) H'

def WordOf (K : PySem.W.Frag) (A : Ad) (cls : Value) (d : Option Addr) (H : Hp) (Q : VK) : Prop := ∃ dd, d = some dd ∧
  ((cls = .ref A.x_InvalidArrows ∧ ∃ v dv, H dd = some (.xd [("given", v)]) ∧ Rp K H v dv ∧ ShowS dv ∧ ToldE H "InvalidArrows" dv.shown Q) ∨
   (cls = .ref A.x_InvalidEnds ∧ ∃ v dv, H dd = some (.xd [("given", v)]) ∧ Rp K H v dv ∧ ShowS dv ∧ ToldE H "InvalidEnds" dv.shown Q) ∨
   (cls = .ref A.x_InvalidSigns ∧ ∃ v dv, H dd = some (.xd [("given", v)]) ∧ Rp K H v dv ∧ ShowS dv ∧ ToldE H "InvalidSigns" dv.shown Q))
def spWord (K : PySem.W.Frag) (A : Ad) : Addr → Value → Option Addr → Hp → VK → Prop := fun _ cls d H Q => WordOf K A cls d H Q
theorem ifT {c : Bool} {X Y : Prop} (hc : c = true) (h : X) : if c = true then X else Y := by rw [if_pos hc]; exact h
theorem ifF {c : Bool} {X Y : Prop} (hc : c = false) (h : Y) : if c = true then X else Y := by rw [hc, if_neg Bool.false_ne_true]; exact h
theorem ok_l_word_of (T : Txt K mg A) (U : Funs K A fd) : FnW P w K mg base 1 A.l_word_of fd.l_word_of "_law_e" (spWord K A) := by
  refine fnW_of U.F_l_word_of sc_l_word_of (fun cdv A0 outer s H Q a0 oe hg hr hf h => ?_)
  have hu := huH hr
  obtain ⟨dd, ed, h⟩ := h
  refine ⟨_, (pss_cons (ps_set (i := 1) sc_l_word_of.nd rfl (Or.inl rfl) (pe_lst (pa_cons (pe_callB (call_isX List.mem_cons_self hf) (by rfl) T.b_isinstance (by decide +kernel) (pa_cons (pv 0) (pa_cons (pe_glob (v := .ref A.x_WrongValue) (by rfl) T.mx_WrongValue rfl) pa_nil))) (pa_cons (pe_callB (call_isX List.mem_cons_self hf) (by rfl) T.b_isinstance (by decide +kernel) (pa_cons (pv 0) (pa_cons (pe_glob (v := .ref A.x_NoAnswer) (by rfl) T.mx_NoAnswer rfl) pa_nil))) pa_nil))))
       (pss_cons (ps_set (i := 2) sc_l_word_of.nd rfl (Or.inl rfl) (pe_lst (pa_cons (pe_callB (call_isX List.mem_cons_self hf) (by rfl) T.b_isinstance (by decide +kernel) (pa_cons (pv 0) (pa_cons (pe_bltn (v := .ty "ValueError") (u := .type "ValueError") (by rfl) T.b_ValueError (by decide +kernel) rfl) pa_nil))) (pa_cons (pe_callB (call_isX List.mem_cons_self hf) (by rfl) T.b_isinstance (by decide +kernel) (pa_cons (pv 0) (pa_cons (pe_bltn (v := .ty "ArithmeticError") (u := .type "ArithmeticError") (by rfl) T.b_ArithmeticError (by decide +kernel) rfl) pa_nil))) pa_nil))))
       (pss_cons (ps_set (i := 3) sc_l_word_of.nd rfl (Or.inl rfl) (pe_lst pa_nil))
       (pss_cons (ps_if (pt_val (pe_callB (call_isX List.mem_cons_self hf) (by rfl) T.b_isinstance (by decide +kernel) (pa_cons (pv 0) (pa_cons (pe_glob (v := .ref A.x_InvalidArrows) (by rfl) T.mx_InvalidArrows rfl) pa_nil)))) (pss_one (ps_expr (w_bm (K := K) PySem.F.plainAttrs_list PySem.F.slot_list_append PySem.F.type_list_append mt_append (pv 3) (pa_cons (pe_lst (pa_cons pe_str (pa_cons (pe_callB (w_reprR (K := K) hg hu) (by rfl) T.b_repr (by decide +kernel) (pa_cons (pe_fldX List.mem_cons_self hf (pv 0)) pa_nil)) pa_nil))) pa_nil)))) pss_nil)
       (pss_cons (ps_if (pt_val (pe_callB (call_isX List.mem_cons_self hf) (by rfl) T.b_isinstance (by decide +kernel) (pa_cons (pv 0) (pa_cons (pe_glob (v := .ref A.x_InvalidEnds) (by rfl) T.mx_InvalidEnds rfl) pa_nil)))) (pss_one (ps_expr (w_bm (K := K) PySem.F.plainAttrs_list PySem.F.slot_list_append PySem.F.type_list_append mt_append (pv 3) (pa_cons (pe_lst (pa_cons pe_str (pa_cons (pe_callB (w_reprR (K := K) hg hu) (by rfl) T.b_repr (by decide +kernel) (pa_cons (pe_fldX List.mem_cons_self hf (pv 0)) pa_nil)) pa_nil))) pa_nil)))) pss_nil)
       (pss_cons (ps_if (pt_val (pe_callB (call_isX List.mem_cons_self hf) (by rfl) T.b_isinstance (by decide +kernel) (pa_cons (pv 0) (pa_cons (pe_glob (v := .ref A.x_InvalidSigns) (by rfl) T.mx_InvalidSigns rfl) pa_nil)))) (pss_one (ps_expr (w_bm (K := K) PySem.F.plainAttrs_list PySem.F.slot_list_append PySem.F.type_list_append mt_append (pv 3) (pa_cons (pe_lst (pa_cons pe_str (pa_cons (pe_callB (w_reprR (K := K) hg hu) (by rfl) T.b_repr (by decide +kernel) (pa_cons (pe_fldX List.mem_cons_self hf (pv 0)) pa_nil)) pa_nil))) pa_nil)))) pss_nil)
       (pss_one (ps_ret (pe_ifExp (PW.pt (pw_and (pt_cmpR op_eq (pe_callB (w_len (K := K)) (by rfl) T.b_len (by decide +kernel) (pa_cons (pv 3) pa_nil)) pe_int (nomark _)) (pw_and (pt_cmpR (w_eqD (K := K) hu) (pv 1) (pv 2) (nomark _)) (pw_and1 (pt_cmpR op_eq (w_bm (K := K) PySem.F.plainAttrs_list PySem.F.slot_list_count PySem.F.type_list_count mt_countB (pv 1) (pa_cons pe_bl pa_nil)) pe_int (nomark _)))))) (pe_ix (w_ixL (K := K)) (pv 3) pe_int (fun _ _ => rfl)) (pe_lst (pa_cons pe_str (pa_cons pe_str pa_nil)))))))))))), ?_⟩
  rcases h with ⟨ec, v, dv, hd, hv, os, q⟩ | ⟨ec, v, dv, hd, hv, os, q⟩ | ⟨ec, v, dv, hd, hv, os, q⟩
  · have hand : ∀ H', Same H H' → Hand K H' oe A.x_InvalidArrows dd [("given", v)] := fun H' s => ⟨T.x_InvalidArrows.xc, ec, ed, s _ _ hd⟩
    refine ⟨_, rfl, _, dd, _, .ref A.x_WrongValue, .ref A.x_WrongValue, true, rfl, hand H (Same.refl _), .own _, T.kit_InvalidArrows_WrongValue, ?_⟩
    refine ⟨_, rfl, _, dd, _, .ref A.x_NoAnswer, .ref A.x_NoAnswer, false, rfl, hand H (Same.refl _), .own _, T.kit_InvalidArrows_NoAnswer, ?_⟩
    refine ⟨by show 2 ≤ sizeLine; decide, fun p1 h1 => ?_⟩
    have s1 := same_upd (o := .lst [.bl true, .bl false]) h1
    refine ⟨_, rfl, _, dd, _, .ty "ValueError", .type "ValueError", true, rfl, hand _ s1, .ty _, T.kit_InvalidArrows_ValueError, ?_⟩
    refine ⟨_, rfl, _, dd, _, .ty "ArithmeticError", .type "ArithmeticError", false, rfl, hand _ s1, .ty _, T.kit_InvalidArrows_ArithmeticError, ?_⟩
    refine ⟨by show 2 ≤ sizeLine; decide, fun p2 h2 => ?_⟩
    have s2 := s1.trans (same_upd (o := .lst [.bl true, .bl false]) h2)
    refine ⟨Nat.zero_le _, fun p3 h3 => ?_⟩
    have s3 := s2.trans (same_upd (o := .lst []) h3)
    refine ⟨_, rfl, _, dd, _, .ref A.x_InvalidArrows, .ref A.x_InvalidArrows, true, rfl, hand _ s3, .own _, T.kit_InvalidArrows_InvalidArrows, true, rfl, ?_⟩
    refine iteT ?_
    have n13 : p1 ≠ p3 := ne_of_none (same_upd (o := .lst [.bl true, .bl false]) h2 _ _ upd_same) h3
    have n23 : p2 ≠ p3 := ne_of_none upd_same h3
    refine ⟨_, rfl, .inl ⟨rfl, _, lst_of upd_same⟩, ?_⟩
    refine ⟨_, rfl, rfl, _, dd, _, v, hand _ s3, T.x_InvalidArrows.noN, rfl, v, dv, rfl, hv.mono s3, os.sh, by have := os.dep; omega, szl (by have := os.len; omega), ?_⟩
    refine ⟨by show 2 ≤ sizeLine; decide, fun p4 h4 => ?_⟩
    have s4 := s3.trans (same_upd (o := .lst [.str "InvalidArrows", .str dv.shown]) h4)
    have n34 : p3 ≠ p4 := ne_of_none upd_same h4
    have n12 : p1 ≠ p2 := ne_of_none upd_same h2
    have n14 : p1 ≠ p4 := ne_of_none (show _ = some (HO.lst [.bl true, .bl false]) by rw [upd_ne n13, upd_ne n12]; exact upd_same) h4
    have n24 : p2 ≠ p4 := ne_of_none (show _ = some (HO.lst [.bl true, .bl false]) by rw [upd_ne n23]; exact upd_same) h4
    refine ⟨p3, [], _, rfl, rfl, (by rw [upd_ne n34]; exact upd_same), by show 0 < sizeLine; decide, ?_⟩
    have f3 : H p3 = none := Same.free s2 h3
    have f4 : H p4 = none := Same.free s3 h4
    have s5 := same_put (o := .lst ([] ++ [.ref p4])) s4 f3
    refine ⟨_, rfl, _, dd, _, .ref A.x_InvalidEnds, .ref A.x_InvalidEnds, false, rfl, hand _ s5, .own _, T.kit_InvalidArrows_InvalidEnds, false, rfl, ?_⟩
    refine iteF (g_next ?_)
    refine ⟨_, rfl, _, dd, _, .ref A.x_InvalidSigns, .ref A.x_InvalidSigns, false, rfl, hand _ s5, .own _, T.kit_InvalidArrows_InvalidSigns, false, rfl, ?_⟩
    refine iteF (g_next ?_)
    refine ⟨_, rfl, _, _, rfl, .inl ⟨_, lst_of upd_same, rfl⟩, ?_⟩
    have e1 : (upd (upd (upd (upd (upd H p1 (.lst [.bl true, .bl false])) p2 (.lst [.bl true, .bl false])) p3 (.lst [])) p4 (.lst [.str "InvalidArrows", .str dv.shown])) p3 (.lst ([] ++ [.ref p4]))) p1 = some (.lst [.bl true, .bl false]) := by
      rw [upd_ne n13, upd_ne n14, upd_ne n13, upd_ne n12]
      exact upd_same
    have e2 : (upd (upd (upd (upd (upd H p1 (.lst [.bl true, .bl false])) p2 (.lst [.bl true, .bl false])) p3 (.lst [])) p4 (.lst [.str "InvalidArrows", .str dv.shown])) p3 (.lst ([] ++ [.ref p4]))) p2 = some (.lst [.bl true, .bl false]) := by
      rw [upd_ne n23, upd_ne n24, upd_ne n23]
      exact upd_same
    refine ⟨rfl, _, rfl, ?_⟩
    refine ifT rfl ?_
    refine ⟨_, rfl, _, rfl, .list [.bool true, .bool false], .list [.bool true, .bool false], .lst (lst_of e1) (.cons (.bl _) (.cons (.bl _) .nil)), .lst (lst_of e2) (.cons (.bl _) (.cons (.bl _) .nil)), rfl, rfl, _, rfl, ?_⟩
    refine ifT rfl ?_
    refine ⟨_, rfl, .inl ⟨rfl, _, lst_of e1⟩, p1, [true, false], true, rfl, rfl, lst_of e1, rfl, _, rfl, ?_⟩
    refine ifT rfl ?_
    refine ⟨_, rfl, p3, _, 0, .ref p4, rfl, rfl, lst_of upd_same, rfl, ?_⟩
    exact q p4 _ f4 s5 (by rw [upd_ne n34.symm]; exact upd_same)
  · have hand : ∀ H', Same H H' → Hand K H' oe A.x_InvalidEnds dd [("given", v)] := fun H' s => ⟨T.x_InvalidEnds.xc, ec, ed, s _ _ hd⟩
    refine ⟨_, rfl, _, dd, _, .ref A.x_WrongValue, .ref A.x_WrongValue, true, rfl, hand H (Same.refl _), .own _, T.kit_InvalidEnds_WrongValue, ?_⟩
    refine ⟨_, rfl, _, dd, _, .ref A.x_NoAnswer, .ref A.x_NoAnswer, false, rfl, hand H (Same.refl _), .own _, T.kit_InvalidEnds_NoAnswer, ?_⟩
    refine ⟨by show 2 ≤ sizeLine; decide, fun p1 h1 => ?_⟩
    have s1 := same_upd (o := .lst [.bl true, .bl false]) h1
    refine ⟨_, rfl, _, dd, _, .ty "ValueError", .type "ValueError", true, rfl, hand _ s1, .ty _, T.kit_InvalidEnds_ValueError, ?_⟩
    refine ⟨_, rfl, _, dd, _, .ty "ArithmeticError", .type "ArithmeticError", false, rfl, hand _ s1, .ty _, T.kit_InvalidEnds_ArithmeticError, ?_⟩
    refine ⟨by show 2 ≤ sizeLine; decide, fun p2 h2 => ?_⟩
    have s2 := s1.trans (same_upd (o := .lst [.bl true, .bl false]) h2)
    refine ⟨Nat.zero_le _, fun p3 h3 => ?_⟩
    have s3 := s2.trans (same_upd (o := .lst []) h3)
    refine ⟨_, rfl, _, dd, _, .ref A.x_InvalidArrows, .ref A.x_InvalidArrows, false, rfl, hand _ s3, .own _, T.kit_InvalidEnds_InvalidArrows, false, rfl, ?_⟩
    refine iteF (g_next ?_)
    refine ⟨_, rfl, _, dd, _, .ref A.x_InvalidEnds, .ref A.x_InvalidEnds, true, rfl, hand _ s3, .own _, T.kit_InvalidEnds_InvalidEnds, true, rfl, ?_⟩
    refine iteT ?_
    have n13 : p1 ≠ p3 := ne_of_none (same_upd (o := .lst [.bl true, .bl false]) h2 _ _ upd_same) h3
    have n23 : p2 ≠ p3 := ne_of_none upd_same h3
    refine ⟨_, rfl, .inl ⟨rfl, _, lst_of upd_same⟩, ?_⟩
    refine ⟨_, rfl, rfl, _, dd, _, v, hand _ s3, T.x_InvalidEnds.noN, rfl, v, dv, rfl, hv.mono s3, os.sh, by have := os.dep; omega, szl (by have := os.len; omega), ?_⟩
    refine ⟨by show 2 ≤ sizeLine; decide, fun p4 h4 => ?_⟩
    have s4 := s3.trans (same_upd (o := .lst [.str "InvalidEnds", .str dv.shown]) h4)
    have n34 : p3 ≠ p4 := ne_of_none upd_same h4
    have n12 : p1 ≠ p2 := ne_of_none upd_same h2
    have n14 : p1 ≠ p4 := ne_of_none (show _ = some (HO.lst [.bl true, .bl false]) by rw [upd_ne n13, upd_ne n12]; exact upd_same) h4
    have n24 : p2 ≠ p4 := ne_of_none (show _ = some (HO.lst [.bl true, .bl false]) by rw [upd_ne n23]; exact upd_same) h4
    refine ⟨p3, [], _, rfl, rfl, (by rw [upd_ne n34]; exact upd_same), by show 0 < sizeLine; decide, ?_⟩
    have f3 : H p3 = none := Same.free s2 h3
    have f4 : H p4 = none := Same.free s3 h4
    have s5 := same_put (o := .lst ([] ++ [.ref p4])) s4 f3
    refine ⟨_, rfl, _, dd, _, .ref A.x_InvalidSigns, .ref A.x_InvalidSigns, false, rfl, hand _ s5, .own _, T.kit_InvalidEnds_InvalidSigns, false, rfl, ?_⟩
    refine iteF (g_next ?_)
    refine ⟨_, rfl, _, _, rfl, .inl ⟨_, lst_of upd_same, rfl⟩, ?_⟩
    have e1 : (upd (upd (upd (upd (upd H p1 (.lst [.bl true, .bl false])) p2 (.lst [.bl true, .bl false])) p3 (.lst [])) p4 (.lst [.str "InvalidEnds", .str dv.shown])) p3 (.lst ([] ++ [.ref p4]))) p1 = some (.lst [.bl true, .bl false]) := by
      rw [upd_ne n13, upd_ne n14, upd_ne n13, upd_ne n12]
      exact upd_same
    have e2 : (upd (upd (upd (upd (upd H p1 (.lst [.bl true, .bl false])) p2 (.lst [.bl true, .bl false])) p3 (.lst [])) p4 (.lst [.str "InvalidEnds", .str dv.shown])) p3 (.lst ([] ++ [.ref p4]))) p2 = some (.lst [.bl true, .bl false]) := by
      rw [upd_ne n23, upd_ne n24, upd_ne n23]
      exact upd_same
    refine ⟨rfl, _, rfl, ?_⟩
    refine ifT rfl ?_
    refine ⟨_, rfl, _, rfl, .list [.bool true, .bool false], .list [.bool true, .bool false], .lst (lst_of e1) (.cons (.bl _) (.cons (.bl _) .nil)), .lst (lst_of e2) (.cons (.bl _) (.cons (.bl _) .nil)), rfl, rfl, _, rfl, ?_⟩
    refine ifT rfl ?_
    refine ⟨_, rfl, .inl ⟨rfl, _, lst_of e1⟩, p1, [true, false], true, rfl, rfl, lst_of e1, rfl, _, rfl, ?_⟩
    refine ifT rfl ?_
    refine ⟨_, rfl, p3, _, 0, .ref p4, rfl, rfl, lst_of upd_same, rfl, ?_⟩
    exact q p4 _ f4 s5 (by rw [upd_ne n34.symm]; exact upd_same)
  · have hand : ∀ H', Same H H' → Hand K H' oe A.x_InvalidSigns dd [("given", v)] := fun H' s => ⟨T.x_InvalidSigns.xc, ec, ed, s _ _ hd⟩
    refine ⟨_, rfl, _, dd, _, .ref A.x_WrongValue, .ref A.x_WrongValue, true, rfl, hand H (Same.refl _), .own _, T.kit_InvalidSigns_WrongValue, ?_⟩
    refine ⟨_, rfl, _, dd, _, .ref A.x_NoAnswer, .ref A.x_NoAnswer, false, rfl, hand H (Same.refl _), .own _, T.kit_InvalidSigns_NoAnswer, ?_⟩
    refine ⟨by show 2 ≤ sizeLine; decide, fun p1 h1 => ?_⟩
    have s1 := same_upd (o := .lst [.bl true, .bl false]) h1
    refine ⟨_, rfl, _, dd, _, .ty "ValueError", .type "ValueError", true, rfl, hand _ s1, .ty _, T.kit_InvalidSigns_ValueError, ?_⟩
    refine ⟨_, rfl, _, dd, _, .ty "ArithmeticError", .type "ArithmeticError", false, rfl, hand _ s1, .ty _, T.kit_InvalidSigns_ArithmeticError, ?_⟩
    refine ⟨by show 2 ≤ sizeLine; decide, fun p2 h2 => ?_⟩
    have s2 := s1.trans (same_upd (o := .lst [.bl true, .bl false]) h2)
    refine ⟨Nat.zero_le _, fun p3 h3 => ?_⟩
    have s3 := s2.trans (same_upd (o := .lst []) h3)
    refine ⟨_, rfl, _, dd, _, .ref A.x_InvalidArrows, .ref A.x_InvalidArrows, false, rfl, hand _ s3, .own _, T.kit_InvalidSigns_InvalidArrows, false, rfl, ?_⟩
    refine iteF (g_next ?_)
    refine ⟨_, rfl, _, dd, _, .ref A.x_InvalidEnds, .ref A.x_InvalidEnds, false, rfl, hand _ s3, .own _, T.kit_InvalidSigns_InvalidEnds, false, rfl, ?_⟩
    refine iteF (g_next ?_)
    refine ⟨_, rfl, _, dd, _, .ref A.x_InvalidSigns, .ref A.x_InvalidSigns, true, rfl, hand _ s3, .own _, T.kit_InvalidSigns_InvalidSigns, true, rfl, ?_⟩
    refine iteT ?_
    have n13 : p1 ≠ p3 := ne_of_none (same_upd (o := .lst [.bl true, .bl false]) h2 _ _ upd_same) h3
    have n23 : p2 ≠ p3 := ne_of_none upd_same h3
    refine ⟨_, rfl, .inl ⟨rfl, _, lst_of upd_same⟩, ?_⟩
    refine ⟨_, rfl, rfl, _, dd, _, v, hand _ s3, T.x_InvalidSigns.noN, rfl, v, dv, rfl, hv.mono s3, os.sh, by have := os.dep; omega, szl (by have := os.len; omega), ?_⟩
    refine ⟨by show 2 ≤ sizeLine; decide, fun p4 h4 => ?_⟩
    have s4 := s3.trans (same_upd (o := .lst [.str "InvalidSigns", .str dv.shown]) h4)
    have n34 : p3 ≠ p4 := ne_of_none upd_same h4
    have n12 : p1 ≠ p2 := ne_of_none upd_same h2
    have n14 : p1 ≠ p4 := ne_of_none (show _ = some (HO.lst [.bl true, .bl false]) by rw [upd_ne n13, upd_ne n12]; exact upd_same) h4
    have n24 : p2 ≠ p4 := ne_of_none (show _ = some (HO.lst [.bl true, .bl false]) by rw [upd_ne n23]; exact upd_same) h4
    refine ⟨p3, [], _, rfl, rfl, (by rw [upd_ne n34]; exact upd_same), by show 0 < sizeLine; decide, ?_⟩
    have f3 : H p3 = none := Same.free s2 h3
    have f4 : H p4 = none := Same.free s3 h4
    have s5 := same_put (o := .lst ([] ++ [.ref p4])) s4 f3
    refine ⟨_, rfl, _, _, rfl, .inl ⟨_, lst_of upd_same, rfl⟩, ?_⟩
    have e1 : (upd (upd (upd (upd (upd H p1 (.lst [.bl true, .bl false])) p2 (.lst [.bl true, .bl false])) p3 (.lst [])) p4 (.lst [.str "InvalidSigns", .str dv.shown])) p3 (.lst ([] ++ [.ref p4]))) p1 = some (.lst [.bl true, .bl false]) := by
      rw [upd_ne n13, upd_ne n14, upd_ne n13, upd_ne n12]
      exact upd_same
    have e2 : (upd (upd (upd (upd (upd H p1 (.lst [.bl true, .bl false])) p2 (.lst [.bl true, .bl false])) p3 (.lst [])) p4 (.lst [.str "InvalidSigns", .str dv.shown])) p3 (.lst ([] ++ [.ref p4]))) p2 = some (.lst [.bl true, .bl false]) := by
      rw [upd_ne n23, upd_ne n24, upd_ne n23]
      exact upd_same
    refine ⟨rfl, _, rfl, ?_⟩
    refine ifT rfl ?_
    refine ⟨_, rfl, _, rfl, .list [.bool true, .bool false], .list [.bool true, .bool false], .lst (lst_of e1) (.cons (.bl _) (.cons (.bl _) .nil)), .lst (lst_of e2) (.cons (.bl _) (.cons (.bl _) .nil)), rfl, rfl, _, rfl, ?_⟩
    refine ifT rfl ?_
    refine ⟨_, rfl, .inl ⟨rfl, _, lst_of e1⟩, p1, [true, false], true, rfl, rfl, lst_of e1, rfl, _, rfl, ?_⟩
    refine ifT rfl ?_
    refine ⟨_, rfl, p3, _, 0, .ref p4, rfl, rfl, lst_of upd_same, rfl, ?_⟩
    exact q p4 _ f4 s5 (by rw [upd_ne n34.symm]; exact upd_same)
end K6


set_option Elab.async false
set_option linter.all false
set_option maxRecDepth 100000
set_option maxHeartbeats 4000000
namespace K6
open PySem PySem.Spec PyProof.Rows L2 Rw LamX
def TCame (K : PySem.W.Frag) (A : Ad) : (XK → Hp → VK → Prop) → Hp → VK → Prop := fun tl H Q =>
  tl (fun cls d H' => PySem.W.exmAny K cls [.ref A.x_WrongValue, .ref A.x_NoAnswer] = some true ∧ WordOf K A cls d H' Q) H fun v H' => ∀ p, H' p = none → Q (.ref p) (upd H' p (.lst [.str "came", v]))
theorem pe_weak {X : Cx} {e : Expr} {t : TE} (he : PE X e t) : PE X e (fun σ H Q => ∃ Qv : VK, t σ H Qv ∧ ∀ v H1, Qv v H1 → Q v H1) := by
  refine ⟨fun pins s σ H Q I h => ?_⟩
  obtain ⟨Qv, h1, h2⟩ := h
  refine wpAny_mono (he.run pins s σ H Qv I h1) (fun u s1 hh => ?_) fun _ _ z => z
  obtain ⟨v, H1, I1, r, q⟩ := hh
  exact ⟨v, H1, I1, r, h2 v H1 q⟩
theorem came_gives {X : Cx} {A : Ad} {fd : Fds} {g : Addr} {cdg : Value} {q : Str} (T : Txt X.K X.mg A) (U : Funs X.K A fd) (hg : X.A.guards = some []) (hr : L2H.RoomH 2 X.A) :
    GivesTo X n_l_came "_law_came" (defScope s_l_came) g cdg (defBody s_l_came) "_law_call" q (TCame X.K A) := by
  intro f c' s H Q tl act hc h
  have W1 := ok_l_word_of (P := X.prog) (w := X.w) (base := X.base) T U
  have b1 := U.b_l_word_of
  refine ⟨_, pss_cons (ps_try_two (X := (cxOf C8.CX0 X.prog X.w X.K X.mg X.base n_l_came "_law_came" (defScope s_l_came) g cdg X.A X.stack s H C8.E0).nox) (i := 2)
      (tb := fun W D σ H => ∃ (Ech : XK) (Qv : VK), (∀ cls d σ' H', Ech cls d H' → W cls d σ' H') ∧ σ[0]? = some (some (.ref f)) ∧ H c' = some (CodeO c' q) ∧ tl Ech H Qv ∧ ∀ v H1, Qv v H1 → D.nx (σ.set 1 (some v)) H1)
      (ts := fun a cls d D σ H => (2 < σ.length → σ[2]? = some (some (.ref a))) ∧ WordOf X.K A cls d H D.rt)
      rfl rfl sc_l_came.nd rfl rfl ⟨rfl, by decide, .inl T.mx_WrongValue⟩ ⟨rfl, by decide, .inl T.mx_NoAnswer⟩ (fun W pn xe tk _ => ?_) (fun a oe cls d pn hz hf => ?_))
    (pss_one (ps_ret (pe_lst (pa_cons pe_str (pa_cons (pv 1) pa_nil))))), ?_⟩
  · refine ⟨fun pins s' σ H' D I h' => ?_⟩
    obtain ⟨Ech, Qv, hW, h1, h2, h3, h4⟩ := h'
    exact (pss_one (ps_set (i := 1) sc_l_came.nd rfl (Or.inl rfl) (pe_weak (act W pn xe Ech _ _ tk hW)))).run pins s' σ H' D I ⟨Qv, ⟨h1, h2, h3⟩, h4⟩
  · refine ⟨fun pins s' σ H' D I h' => ?_⟩
    obtain ⟨h1, h2⟩ := h'
    have hl := I.len
    have h1 := h1 (by rw [hl]; exact (by decide : 2 < n_l_came.length))
    rw [← hz.1, ← hz.2] at h2
    exact (pss_one (ps_ret (pe_callW (X := (cxOf C8.CX0 X.prog X.w X.K X.mg X.base n_l_came "_law_came" (defScope s_l_came) g cdg X.A X.stack s H C8.E0).nox) (pn := pn) W1 hg ((hr.deeper _).mono (Nat.le_refl 1)) (by rfl) T.m_l_word_of T.k_l_word_of b1 hf (pa_cons (pv 2) pa_nil)))).run pins s' σ H' D I ⟨_, h1, rfl, h2⟩
  · refine ⟨_, _, fun cls d σ' H' hE => ⟨hE.1, fun a ha => ⟨fun hl => ?_, hE.2⟩⟩, rfl, hc, h, fun v H1 hv => ⟨v, rfl, by show 2 ≤ sizeLine; decide, hv⟩⟩
    exact List.getElem?_set_self (by simpa using hl)
/-- _law_came(lambda: body) -/
theorem pe_came {X : Cx} {A : Ad} {fd : Fds} {KK : Nat} {c Pt : Addr} {params : Arguments} {body : Expr} {scope : Scope} {t : XK → TE} {p lpos pos : Pos} (T : Txt X.K X.mg A) (U : Funs X.K A fd)
    (TB : TabB X.base X.mg c Pt) (hcode : X.env.code = .ref c) (hmT : (Pt, X.env.qual ++ "<lambda>") ∈ tabsOf A) (hun : ∀ p ∈ tabsOf A, p.1 = Pt → p.2 = X.env.qual ++ "<lambda>") (hg : X.A.guards = some []) (hr : Room (KK + 2) X.A) (_ : 1 ≤ KK)
    (L : LamS X.env.scope scope) (hdef : defaultsOf params X.env = ([], []))
    (hbind : ∀ (q : Str) (cl : List (Str × Addr)) (pm cv ctv : Value), bindArgs (PySem.W.kla_fn "<lambda>" q params body scope cl pm cv ctv) ⟨[], []⟩ = pure [])
    (hbody : ∀ (A : Around) (outer : List Env) (s : Shared) (H : Hp) (E : XK) (f c' : Addr), Room KK (A.deeper (lamEnv X scope s.heap.objs.size f c')) → PE (lamCx X A outer s H E scope f c') body (t E))
    (hgl : Gl X "_law_came" := by rfl) : PE X (.Call (.Name "_law_came" p) [.Lambda params body scope lpos] [] pos) (tLam (tabsOf A) (TCame X.K A) t) := by
  obtain ⟨oc, od, kV, doc, pm, an, cdv, ct, osl, e, lk, hcd⟩ := U.F_l_came.ex
  have b := U.b_l_came
  rw [e] at lk b
  exact pe_lamcall hgl T.m_l_came T.k_l_came lk hcd b sc_l_came rfl (by first | exact .inl rfl | exact .inr (.inl rfl)) (came_gives T U hg ((L2H.roomH_of hr).mono (by omega))) TB hcode hmT hun hr L hdef hbind hbody
end K6

set_option Elab.async false
set_option linter.all false
set_option maxRecDepth 100000
set_option maxHeartbeats 4000000
namespace K6
open PySem PySem.Spec PyProof.Rows L2 Rw LamX
variable {P : Program} {w : World} {K : PySem.W.Frag} {mg : Str → Option Value} {base : Heap} {A : Ad} {fd : Fds}
/-! ### what the law itself finds -/
theorem g_tst {r : R2} {te ta : TE} {σ : L2.St} {H : Hp} {Q : Bool → Hp → Prop} (h : te σ H fun x H1 => ta σ H1 fun y H2 => r x y H2 fun z H3 => ∃ k, z = .bl k ∧ Q k H3) : tTest (tOp r te ta) σ H Q := h
theorem pre_emp {α : Type} (xs : List V) (ds : List α) (f : Nat → List V) (g : α → Bool) (hl : xs.length = ds.length) (h : ∀ i x d, xs[i]? = some x → ds[i]? = some d → f i = if g d = true then [] else [x]) :
    (pre f xs.length).isEmpty = ds.all g := by
  rw [Bool.eq_iff_iff, List.isEmpty_iff, List.all_eq_true]
  have at_ : ∀ i, i < xs.length → ∃ x d, xs[i]? = some x ∧ ds[i]? = some d := fun i hi => ⟨xs[i], ds[i], List.getElem?_eq_getElem hi, List.getElem?_eq_getElem (by omega)⟩
  unfold pre
  rw [List.flatMap_eq_nil_iff]
  constructor
  · intro z d hd
    obtain ⟨i, hi⟩ := List.getElem?_of_mem hd
    have hlt : i < xs.length := by rw [hl]; exact lt_of_get hi
    obtain ⟨x, d', hx, hd'⟩ := at_ i hlt
    obtain rfl := Option.some.inj (hi.symm.trans hd')
    have e := z i (List.mem_range.mpr hlt)
    rw [h i x d hx hi] at e
    cases c : g d with
    | true => rfl
    | false => rw [c] at e; cases e
  · intro z i hi
    obtain ⟨x, d, hx, hd⟩ := at_ i (List.mem_range.mp hi)
    rw [h i x d hx hd, if_pos (z d (List.mem_of_getElem? hd))]
def spEndsOf (K : PySem.W.Frag) : Sp := fun vs H Q _ => ∃ (v : V) (d : PyData) (n : Int), vs = [v, .int n] ∧ Rp K H v d ∧ wt d ≤ 50000 ∧ ∀ H', Same H H' → Q (.bl (standsD n d)) H'
theorem ok_l_are_ends (T : Txt K mg A) (U : Funs K A fd) : FnOk P w K mg base CX0 4 A.l_are_ends fd.l_are_ends p_l_are_ends (spEndsOf K) := by
  have b_l_is_count := U.b_l_is_count
  have G_l_is_count := ok_l_is_count (P := P) (w := w) (base := base) T U
  refine U.F_l_are_ends.ok sc_l_are_ends (fun vs H Q E h => ?_) (fun cdv A0 outer s H vs Q E hr h => ?_)
  · obtain ⟨v, d, n, rfl, _⟩ := h
    rfl
  · have hu := hu_of hr
    obtain ⟨v, d, n, rfl, h, hw, q⟩ := h
    refine ⟨_, (pss_cons (ps_if (PW.pt (pw_or (pt_not (pt_val (pe_callB (w_isi (K := K)) (by rfl) T.b_isinstance (by decide +kernel) (pa_cons (pv 0) (pa_cons (pe_bltn (v := .ty "tuple") (u := .type "tuple") (by rfl) T.b_tuple (by decide +kernel) rfl) pa_nil))))) (pw_or1 (pt_cmpR (w_neNil (K := K) hr.units) (pe_lc (own := [("_law_each", 2)]) (g := gName 2) (by rfl) sc_l_are_ends.nd (w_piT (K := K) (pv 0)) (blkOk_by (own := [("_law_each", 2)]) (by rfl)) (fun _ _ _ _ _ => (pg_name (i := 2) sc_l_are_ends.nd rfl (Or.inl rfl))) (fun _ _ _ _ _ => (pts_one (pt_not (pt_val (pe_call G_l_is_count (hr.mono (by decide)) (by rfl) T.m_l_is_count T.k_l_is_count b_l_is_count .nil pass0 (pa_cons (pv 2) (pa_cons pe_int (pa_cons (pe_op op_sub (pv 1) pe_int) pa_nil)))))))) (fun _ _ _ _ _ => (pv 2))) (pe_lst pa_nil) (nomark _))))) (pss_one (ps_ret pe_bl)) pss_nil)
       (pss_one (ps_ret (pe_callB (w_all (K := K) rfl) (by rfl) T.b_all (by decide +kernel) (pa_cons (pe_lc (own := [("_law_k", 3)]) (g := gName 3) (tt := tYes) (by rfl) sc_l_are_ends.nd (pi_range1 (by rfl) T.b_range (pa_cons (pe_op op_sub (pe_callB (w_len (K := K)) (by rfl) T.b_len (by decide +kernel) (pa_cons (pv 0) pa_nil)) pe_int) pa_nil)) (blkOk_by (own := [("_law_k", 3)]) (by rfl)) (fun _ _ _ _ _ => (pg_name (i := 3) sc_l_are_ends.nd rfl (Or.inl rfl))) (fun _ _ _ _ _ => pts_nil) (fun _ _ _ _ _ => (pe_cmpR op_lt (pe_ix (w_ixT (K := K)) (pv 0) (pv 3) (fun _ _ => rfl)) (pe_ix (w_ixT (K := K)) (pv 0) (pe_op op_add (pv 3) pe_int) (fun _ _ => rfl)) (nomark _)))) pa_nil))))), ?_⟩
    rcases tup_or h with ⟨a, xs, ds, rfl, rfl, ha, hds⟩ | hno
    · have hl := rps_len hds
      have h2 := wt_len ds
      have hz : xs.length < 100000 := by
        simp only [wt] at hw
        omega
      have eg : standsD n (.tuple ds) = (ds.all (btwD 0 (n - 1)) && ascB (ds.map intD)) := rfl
      rw [eg] at q
      refine ⟨_, rfl, _, .ty "tuple", .type "tuple", .type "tuple", true, rfl, .ty _, h.ty, kitT (.tuple ds), true, rfl, ?_⟩
      refine iteF ?_
      refine g_tst (cT (xs := xs) (fun i => if btwD 0 (n - 1) (ds.getD i .none) = true then [] else [xs.getD i .non]) (fun R r => ?_) ha (fun i => by split <;> simp) hz ?_ (fun i x hi => ?_) (fun D H1 hD s1 h1 => ?_))
      · exact ⟨_, rfl, r⟩
      · exact fun _ => rfl
      · obtain ⟨e, he, hxe⟩ := rps_get hds hi
        have ee : ds.getD i .none = e := by rw [List.getD_eq_getElem?_getD, he]; rfl
        have ex : xs.getD i .non = x := getD_of hi
        rw [ee, ex]
        intro H1 R N s1 ry rn
        refine ⟨_, rfl, _, rfl, _, _, rfl, rfl, x, e, 0, n - 1, rfl, hxe.mono s1, _, rfl, ?_⟩
        cases c : btwD 0 (n - 1) e with
        | true =>
          rw [c] at rn
          exact iteF (rn H1 (if_pos rfl) (Same.refl _))
        | false =>
          rw [c] at ry
          exact iteT ⟨_, rfl, ry x H1 (if_neg Bool.false_ne_true) (Same.refl _)⟩
      · have hem := pre_emp xs ds (fun i => if btwD 0 (n - 1) (ds.getD i .none) = true then [] else [xs.getD i .non]) (btwD 0 (n - 1)) hl fun i x d hx hd => by
          have ee : ds.getD i .none = d := by rw [List.getD_eq_getElem?_getD, hd]; rfl
          show (if btwD 0 (n - 1) (ds.getD i .none) = true then [] else [xs.getD i .non]) = _
          rw [ee, getD_of hx]
        refine ⟨Nat.zero_le _, fun p hp => ⟨D, p, _, rfl, rfl, lst_of (same_upd hp _ _ h1), lst_of upd_same, _, rfl, ?_⟩⟩
        rw [hem]
        have s2 : Same H (upd H1 p (.lst [])) := s1.trans (same_upd hp)
        cases c : ds.all (btwD 0 (n - 1)) with
        | false =>
          rw [c] at q
          exact iteT (q _ s2)
        | true =>
          rw [c] at q
          refine iteF (g_next ?_)
          dsimp only
          have ei := ints_of btw_int c
          have nd : PyData.hasDict (.tuple ds) = false := by
            simp only [PyData.hasDict]
            rw [ei]
            exact noDict_ints _
          have dp := Rp.dp _ (h.mono s2) nd
          generalize hns : ds.map intD = ns at ei q
          rw [ei] at dp
          obtain ⟨a', xs', e1, hx, hds'⟩ := dp_tup dp
          obtain rfl := V.ref.inj e1
          obtain rfl := dps_ints hds'
          have hln : ns.length = ds.length := by rw [← hns, List.length_map]
          refine g_ret (g_cb (cR (n := ns.length - 1) (m := (ns.length : Int) - 1) (fun i => [.bl (decide (ns.getD i 0 < ns.getD (i + 1) 0))]) (by omega) (by omega) (fun R r => ?_) (fun _ => Nat.le_refl 1) (by omega) ?_ (fun i hi => turn_yes fun H5 R s5 r => ?_) (fun D5 H5 _ s5 h5 => ?_)))
          · exact ⟨_, rfl, _, _, rfl, .inr ⟨_, hx, rfl⟩, _, 1, by rw [List.length_map], rfl, r⟩
          · exact fun _ => rfl
          · have h1 : i < ns.length := by omega
            have h2 : i + 1 < ns.length := by omega
            have e1 : (ns.map V.int)[i]? = some (.int (ns.getD i 0)) := by simp [List.getD_eq_getElem?_getD, h1]
            have e2 : (ns.map V.int)[i + 1]? = some (.int (ns.getD (i + 1) 0)) := by simp [List.getD_eq_getElem?_getD, h2]
            refine ⟨_, rfl, _, rfl, _, _, _, _, rfl, rfl, sqT_mono s5 hx, atI_nat e1, _, rfl, _, rfl, _, _, rfl, rfl, _, _, _, _, rfl, rfl, sqT_mono s5 hx, atI_nat (j := i + 1) e2, _, _, rfl, rfl, ?_⟩
            exact r H5 (Same.refl _)
          · rw [pre_map] at h5
            refine ⟨D5, (List.range (ns.length - 1)).map fun i => decide (ns.getD i 0 < ns.getD (i + 1) 0), rfl, lst_of (by rw [List.map_map]; exact h5), ?_⟩
            rw [all_id]
            exact q H5 (s2.trans s5)
    · refine ⟨_, rfl, v, .ty "tuple", .type (tyS d), .type "tuple", false, rfl, .ty _, h.ty, by rw [← hno]; exact kitT d, false, rfl, ?_⟩
      refine iteT (iteT ?_)
      have eg : standsD n d = false := by unfold standsD; rw [hno]; rfl
      rw [eg] at q
      exact q H (Same.refl _)
end K6


set_option Elab.async false
set_option linter.all false
set_option maxRecDepth 100000
set_option maxHeartbeats 4000000
namespace K6
open PySem PySem.Spec PyProof.Rows L2 Rw LamX
variable {P : Program} {w : World} {K : PySem.W.Frag} {mg : Str → Option Value} {base : Heap} {A : Ad} {fd : Fds}
theorem g_ifS {c : TT} {t u : TS} {D : Ends} {σ : L2.St} {H : Hp} (h : c σ H fun b H1 => if b = true then t D σ H1 else u D σ H1) : tIfS c t u D σ H := h
def isNil : PyData → Bool
  | .none => true
  | _ => false
theorem nil_of {H : Hp} {v : V} {d : PyData} (h : Rp K H v d) : decide (v = .non) = isNil d := by
  rw [non_of h]
  cases d <;> rfl
def shapeD (w : Int) (d : PyData) : Bool := isTu d && decide (((elsD d).length : Int) = w)
theorem goals_two (w n : Int) (ds : List PyData) : ds.all (goalsD w n) = (ds.all (shapeD w) && ds.all fun d => (elsD d).all (goalD n)) := by
  induction ds with
  | nil => rfl
  | cons d ds ih =>
    rw [List.all_cons, List.all_cons, List.all_cons, ih]
    unfold goalsD shapeD
    cases isTu d <;> cases decide (((elsD d).length : Int) = w) <;> cases (elsD d).all (goalD n) <;> cases ds.all _ <;> rfl
theorem all_upto {α : Type} {f : α → Bool} {ds : List α} (h : ∀ (j : Nat) (d : α), ds[j]? = some d → f d = true) : ds.all f = true := by
  rw [List.all_eq_true]
  intro d hd
  obtain ⟨i, hi⟩ := List.getElem?_of_mem hd
  exact h i d hi
def spTableOf (K : PySem.W.Frag) : Sp := fun vs H Q _ => ∃ (v : V) (d : PyData) (wd : Int), vs = [v, .int wd] ∧ Rp K H v d ∧ wt d ≤ 50000 ∧ ∀ H', Same H H' → Q (.bl (arrowsD wd d)) H'
theorem ok_l_is_table (T : Txt K mg A) (U : Funs K A fd) : FnOk P w K mg base CX0 4 A.l_is_table fd.l_is_table p_l_is_table (spTableOf K) := by
  have b_l_is_count := U.b_l_is_count
  have G_l_is_count := ok_l_is_count (P := P) (w := w) (base := base) T U
  refine U.F_l_is_table.ok sc_l_is_table (fun vs H Q E h => ?_) (fun cdv A0 outer s H vs Q E hr h => ?_)
  · obtain ⟨v, d, wd, rfl, _⟩ := h
    rfl
  · have hu := hu_of hr
    obtain ⟨v, d, wd, rfl, h, hw, q⟩ := h
    refine ⟨_, (pss_cons (ps_if (PW.pt (pw_or (pt_not (pt_val (pe_callB (w_isi (K := K)) (by rfl) T.b_isinstance (by decide +kernel) (pa_cons (pv 0) (pa_cons (pe_bltn (v := .ty "tuple") (u := .type "tuple") (by rfl) T.b_tuple (by decide +kernel) rfl) pa_nil))))) (pw_or1 (pt_not (pt_chain op_le op_le pe_int (pe_callB (w_len (K := K)) (by rfl) T.b_len (by decide +kernel) (pa_cons (pv 0) pa_nil)) pe_int))))) (pss_one (ps_ret pe_bl)) pss_nil)
       (pss_cons (ps_if (pt_cmpR (w_neNil (K := K) hr.units) (pe_lc (own := [("_law_each", 2)]) (g := gName 2) (by rfl) sc_l_is_table.nd (w_piT (K := K) (pv 0)) (blkOk_by (own := [("_law_each", 2)]) (by rfl)) (fun _ _ _ _ _ => (pg_name (i := 2) sc_l_is_table.nd rfl (Or.inl rfl))) (fun _ _ _ _ _ => (pts_one (PW.pt (pw_or (pt_not (pt_val (pe_callB (w_isi (K := K)) (by rfl) T.b_isinstance (by decide +kernel) (pa_cons (pv 2) (pa_cons (pe_bltn (v := .ty "tuple") (u := .type "tuple") (by rfl) T.b_tuple (by decide +kernel) rfl) pa_nil))))) (pw_or1 (pt_cmpR op_ne (pe_callB (w_len (K := K)) (by rfl) T.b_len (by decide +kernel) (pa_cons (pv 2) pa_nil)) (pv 1) (nomark _))))))) (fun _ _ _ _ _ => (pv 2))) (pe_lst pa_nil) (nomark _)) (pss_one (ps_ret pe_bl)) pss_nil)
       (pss_cons (ps_for PassesOwn.never rfl (w_piT (K := K) (pv 0)) (pg_name (i := 2) sc_l_is_table.nd rfl (Or.inl rfl))
       (pss_one (ps_if (pt_cmpR (w_neNil (K := K) hr.units) (pe_lc (own := [("_law_goal", 3)]) (g := gName 3) (by rfl) sc_l_is_table.nd (w_piT (K := K) (pv 2)) (blkOk_by (own := [("_law_goal", 3)]) (by rfl)) (fun _ _ _ _ _ => (pg_name (i := 3) sc_l_is_table.nd rfl (Or.inl rfl))) (fun _ _ _ _ _ => (pts_one (PW.pt (pw_and (pt_cmpR op_notN (pv 3) pe_non (nomark _)) (pw_and1 (pt_not (pt_val (pe_call G_l_is_count (hr.mono (by decide)) (by rfl) T.m_l_is_count T.k_l_is_count b_l_is_count .nil pass0 (pa_cons (pv 3) (pa_cons pe_int (pa_cons (pe_op op_sub (pe_callB (w_len (K := K)) (by rfl) T.b_len (by decide +kernel) (pa_cons (pv 0) pa_nil)) pe_int) pa_nil))))))))))) (fun _ _ _ _ _ => (pv 3))) (pe_lst pa_nil) (nomark _)) (pss_one (ps_ret pe_bl)) pss_nil)))
       (pss_one (ps_ret pe_bl))))), ?_⟩
    rcases tup_or h with ⟨a, xs, ds, rfl, rfl, ha, hds⟩ | hno
    · have hl := rps_len hds
      have hx := ha
      have h2 := wt_len ds
      have hz : xs.length < 100000 := by
        simp only [wt] at hw
        omega
      have eg : arrowsD wd (.tuple ds) = (decide (1 ≤ ds.length) && decide (ds.length ≤ 200) && ds.all (goalsD wd ds.length)) := rfl
      rw [eg, goals_two] at q
      refine ⟨_, rfl, _, .ty "tuple", .type "tuple", .type "tuple", true, rfl, .ty _, h.ty, kitT (.tuple ds), true, rfl, ?_⟩
      refine iteF ?_
      refine ⟨_, rfl, _, _, rfl, .inr ⟨_, hx, rfl⟩, _, _, rfl, rfl, _, rfl, ?_⟩
      by_cases c1 : 1 ≤ ds.length
      · rw [decide_eq_true (show (1 : Int) ≤ (xs.length : Int) by omega)]
        rw [decide_eq_true c1, Bool.true_and] at q
        refine iteT ?_
        refine ⟨_, _, rfl, rfl, _, rfl, ?_⟩
        by_cases c2 : ds.length ≤ 200
        · rw [decide_eq_true (show (xs.length : Int) ≤ 200 by omega)]
          rw [decide_eq_true c2, Bool.true_and] at q
          refine iteF (g_next ?_)
          dsimp only
          refine g_seq (g_ifS (g_tst (cT (xs := xs) (fun i => if shapeD wd (ds.getD i .none) = true then [] else [xs.getD i .non]) (fun R r => ?_) ha (fun i => by split <;> simp) hz ?_ (fun i x hi => ?_) (fun D H1 hD s1 h1 => ?_))))
          · exact ⟨_, rfl, r⟩
          · exact fun _ => rfl
          · obtain ⟨e, he, hxe⟩ := rps_get hds hi
            have ee : ds.getD i .none = e := by rw [List.getD_eq_getElem?_getD, he]; rfl
            have ex : xs.getD i .non = x := getD_of hi
            rw [ee, ex]
            intro H1 R N s1 ry rn
            have hx1 := hxe.mono s1
            rcases tup_or hx1 with ⟨xa, ys, es, rfl, rfl, hya, hes⟩ | hno
            · refine ⟨_, rfl, _, .ty "tuple", .type "tuple", .type "tuple", true, rfl, .ty _, hx1.ty, kitT (.tuple es), true, rfl, ?_⟩
              refine iteF ?_
              refine ⟨_, rfl, _, _, rfl, .inr ⟨_, hya, rfl⟩, _, rfl, rfl, _, rfl, ?_⟩
              have esh : shapeD wd (.tuple es) = decide ((es.length : Int) = wd) := rfl
              rw [esh] at ry rn
              rw [rps_len hes]
              by_cases c : (es.length : Int) = wd
              · rw [show decide (V.int (es.length : Int) = V.int wd) = true from decide_eq_true (by rw [c])]
                rw [decide_eq_true c] at rn
                exact iteF (rn H1 (if_pos rfl) (Same.refl _))
              · rw [show decide (V.int (es.length : Int) = V.int wd) = false from decide_eq_false fun z => c (V.int.inj z)]
                rw [decide_eq_false c] at ry
                exact iteT ⟨_, rfl, ry _ H1 (if_neg Bool.false_ne_true) (Same.refl _)⟩
            · refine ⟨_, rfl, x, .ty "tuple", .type (tyS e), .type "tuple", false, rfl, .ty _, hx1.ty, by rw [← hno]; exact kitT e, false, rfl, ?_⟩
              have esh : shapeD wd e = false := by unfold shapeD; rw [hno]; rfl
              rw [esh] at ry
              refine iteT (iteT ?_)
              exact ⟨_, rfl, ry _ H1 (if_neg Bool.false_ne_true) (Same.refl _)⟩
          · have hem := pre_emp xs ds (fun i => if shapeD wd (ds.getD i .none) = true then [] else [xs.getD i .non]) (shapeD wd) hl fun i x d hx hd => by
              have ee : ds.getD i .none = d := by rw [List.getD_eq_getElem?_getD, hd]; rfl
              show (if shapeD wd (ds.getD i .none) = true then [] else [xs.getD i .non]) = _
              rw [ee, getD_of hx]
            refine ⟨Nat.zero_le _, fun p hp => ⟨D, p, _, rfl, rfl, lst_of (same_upd hp _ _ h1), lst_of upd_same, _, rfl, ?_⟩⟩
            rw [hem]
            have s2 : Same H (upd H1 p (.lst [])) := s1.trans (same_upd hp)
            cases c : ds.all (shapeD wd) with
            | false =>
              rw [c] at q
              exact iteT (q _ s2)
            | true =>
              rw [c] at q
              refine iteF (g_next ?_)
              dsimp only
              have shp : ∀ i d, ds[i]? = some d → shapeD wd d = true := fun i d h => List.all_eq_true.mp c d (List.mem_of_getElem? h)
              refine g_seq ?_
              refine ⟨_, rfl, _, rfl, ⟨_, sqT_mono s2 hx⟩, ?_⟩
              refine for_tup (xs := xs) (fun i σ H' => ∃ y2 y3 : Option V, σ = [some (.ref a), some (.int wd), y2, y3] ∧ Same H H' ∧ ∀ j d, j < i → ds[j]? = some d → (elsD d).all (goalD ds.length) = true) ?_ ?_ ?_ ?_
              · exact ⟨none, none, rfl, s2, fun j d h => by omega⟩
              · rintro i σ H' _ ⟨_, _, _, s3, _⟩
                exact sqT_mono s3 hx
              · rintro i x σ H' hi ⟨y2, y3, rfl, s3, before⟩
                obtain ⟨e, he, hxe⟩ := rps_get hds hi
                have he' := shp i e he
                unfold shapeD at he'
                rw [Bool.and_eq_true, decide_eq_true_eq] at he'
                have hx3 := hxe.mono s3
                rw [isTu_els he'.1] at hx3
                obtain ⟨xa, ys, rfl, hya, hes⟩ := rp_tup hx3
                have hyl := rps_len hes
                have wte := wt_mem (List.mem_of_getElem? he)
                have wts : ys.length < 100000 := by
                  have := wt_len (elsD e)
                  have : wt e = 5 + wtAll (elsD e) := by
                    rw [isTu_els he'.1]
                    rfl
                  simp only [wt] at hw
                  omega
                show tIfS _ _ _ _ _ _
                dsimp only
                refine g_ifS (g_tst (cT (xs := ys) (fun i => if goalD ds.length ((elsD e).getD i .none) = true then [] else [ys.getD i .non]) (fun R r => ?_) hya (fun i => by split <;> simp) wts ?_ (fun i x hi => ?_) (fun D5 H5 hD s5 h5 => ?_)))
                · exact ⟨_, rfl, r⟩
                · exact fun _ => rfl
                · obtain ⟨g, hg, hxg⟩ := rps_get hes hi
                  have ee : (elsD e).getD i .none = g := by rw [List.getD_eq_getElem?_getD, hg]; rfl
                  have ex : ys.getD i .non = x := getD_of hi
                  rw [ee, ex]
                  intro H5 R N s5 ry rn
                  have hg5 := hxg.mono s5
                  refine ⟨_, rfl, rfl, _, rfl, ?_⟩
                  rw [nil_of hg5]
                  by_cases gn : g = .none
                  · subst gn
                    have rn := rn H5 (if_pos rfl) (Same.refl _)
                    exact iteF rn
                  · have gd : goalD ds.length g = btwD 0 ((ds.length : Int) - 1) g := by cases g <;> first | rfl | exact absurd rfl gn
                    have nm : isNil g = false := by cases g <;> first | rfl | exact absurd rfl gn
                    rw [nm]
                    rw [gd] at ry rn
                    refine iteT ?_
                    refine ⟨_, rfl, _, rfl, _, _, rfl, .inr ⟨_, sqT_mono (s3.trans s5) hx, rfl⟩, _, _, rfl, rfl, x, g, 0, (ds.length : Int) - 1, by rw [hl] <;> rfl, hg5, _, rfl, ?_⟩
                    cases c : btwD 0 ((ds.length : Int) - 1) g with
                    | true =>
                      rw [c] at rn
                      exact iteF (rn H5 (if_pos rfl) (Same.refl _))
                    | false =>
                      rw [c] at ry
                      exact iteT ⟨_, rfl, ry x H5 (if_neg Bool.false_ne_true) (Same.refl _)⟩
                · have hem := pre_emp ys (elsD e) (fun i => if goalD ds.length ((elsD e).getD i .none) = true then [] else [ys.getD i .non]) (goalD ds.length) hyl fun i x d hx hd => by
                    have ee : (elsD e).getD i .none = d := by rw [List.getD_eq_getElem?_getD, hd]; rfl
                    show (if goalD ds.length ((elsD e).getD i .none) = true then [] else [ys.getD i .non]) = _
                    rw [ee, getD_of hx]
                  refine ⟨Nat.zero_le _, fun p hp => ⟨D5, p, _, rfl, rfl, lst_of (same_upd hp _ _ h5), lst_of upd_same, _, rfl, ?_⟩⟩
                  rw [hem]
                  have s6 : Same H (upd H5 p (.lst [])) := (s3.trans s5).trans (same_upd hp)
                  cases c : (elsD e).all (goalD ds.length) with
                  | false =>
                    rw [all_false (f := fun d => (elsD d).all (goalD ds.length)) he c] at q
                    exact iteT (q _ s6)
                  | true =>
                    refine iteF (g_next ?_)
                    refine ⟨_, _, rfl, s6, fun j d hj hd => ?_⟩
                    by_cases z : j = i
                    · subst z
                      obtain rfl := Option.some.inj (he.symm.trans hd)
                      exact c
                    · exact before j d (by omega) hd
              · rintro σ H' ⟨y2, y3, rfl, s3, before⟩
                rw [all_upto fun j d h => before j d (by rw [hl]; exact lt_of_get h) h] at q
                exact q H' s3
        · rw [decide_eq_false (show ¬ (xs.length : Int) ≤ 200 by omega)]
          rw [decide_eq_false c2, Bool.false_and] at q
          exact iteT (q H (Same.refl _))
      · rw [decide_eq_false (show ¬ (1 : Int) ≤ (xs.length : Int) by omega)]
        rw [decide_eq_false c1, Bool.false_and, Bool.false_and] at q
        exact iteF ⟨_, rfl, iteT (q H (Same.refl _))⟩
    · refine ⟨_, rfl, v, .ty "tuple", .type (tyS d), .type "tuple", false, rfl, .ty _, h.ty, by rw [← hno]; exact kitT d, false, rfl, ?_⟩
      refine iteT (iteT ?_)
      have eg : arrowsD wd d = false := by unfold arrowsD; rw [hno]; rfl
      rw [eg] at q
      exact q H (Same.refl _)
end K6


set_option Elab.async false
set_option linter.all false
set_option maxRecDepth 100000
set_option maxHeartbeats 4000000
namespace K6
open PySem PySem.Spec PyProof.Rows L2 Rw LamX
variable {P : Program} {w : World} {K : PySem.W.Frag} {mg : Str → Option Value} {base : Heap} {A : Ad} {fd : Fds}
/-! ### what is due, what a reader shows -/
def dueV (d1 d2 d3 : PyData) : List V := match dueD d1 d2 d3 with
  | 0 => [.str "InvalidSigns", .str d1.shown]
  | 1 => [.str "InvalidArrows", .str d2.shown]
  | 2 => [.str "InvalidEnds", .str d3.shown]
  | _ => []
def spDue (K : PySem.W.Frag) : Sp := fun vs H Q _ => ∃ (v1 v2 v3 : V) (d1 d2 d3 : PyData), vs = [v1, v2, v3] ∧ Rp K H v1 d1 ∧ Rp K H v2 d2 ∧ Rp K H v3 d3 ∧ ShowS d1 ∧ ShowS d2 ∧ ShowS d3 ∧ wt d2 ≤ 50000 ∧ wt d3 ≤ 50000 ∧
  ∀ l H', Same H H' → H' l = some (.lst (dueV d1 d2 d3)) → Q (.ref l) H'
theorem ok_l_due (T : Txt K mg A) (U : Funs K A fd) : FnOkG P w K mg base 7 A.l_due fd.l_due p_l_due (spDue K) := by
  have b_l_are_ends := U.b_l_are_ends
  have G_l_are_ends := ok_l_are_ends (P := P) (w := w) (base := base) T U
  have b_l_is_table := U.b_l_is_table
  have G_l_is_table := ok_l_is_table (P := P) (w := w) (base := base) T U
  have b_l_is_count := U.b_l_is_count
  have G_l_is_count := ok_l_is_count (P := P) (w := w) (base := base) T U
  refine okG U.F_l_due sc_l_due (fun vs H Q E h => ?_) (fun cdv A0 outer s H vs Q E hg hr h => ?_)
  · obtain ⟨v1, v2, v3, d1, d2, d3, rfl, _⟩ := h
    rfl
  · have hu := hu_of hr
    obtain ⟨v1, v2, v3, d1, d2, d3, rfl, r1, r2, r3, h1, h2, h3, w2, w3, q⟩ := h
    refine ⟨_, (pss_cons (ps_if (pt_not (pt_val (pe_call G_l_is_count (hr.mono (by decide)) (by rfl) T.m_l_is_count T.k_l_is_count b_l_is_count .nil pass0 (pa_cons (pv 0) (pa_cons pe_int (pa_cons pe_int pa_nil)))))) (pss_one (ps_ret (pe_lst (pa_cons pe_str (pa_cons (pe_callB (w_reprR (K := K) hg hr.units) (by rfl) T.b_repr (by decide +kernel) (pa_cons (pv 0) pa_nil)) pa_nil))))) pss_nil)
       (pss_cons (ps_if (pt_not (pt_val (pe_call G_l_is_table (hr.mono (by decide)) (by rfl) T.m_l_is_table T.k_l_is_table b_l_is_table .nil pass0 (pa_cons (pv 1) (pa_cons (pv 0) pa_nil))))) (pss_one (ps_ret (pe_lst (pa_cons pe_str (pa_cons (pe_callB (w_reprR (K := K) hg hr.units) (by rfl) T.b_repr (by decide +kernel) (pa_cons (pv 1) pa_nil)) pa_nil))))) pss_nil)
       (pss_one (ps_ret (pe_ifExp (pt_val (pe_call G_l_are_ends (hr.mono (by decide)) (by rfl) T.m_l_are_ends T.k_l_are_ends b_l_are_ends .nil pass0 (pa_cons (pv 2) (pa_cons (pe_callB (w_len (K := K)) (by rfl) T.b_len (by decide +kernel) (pa_cons (pv 1) pa_nil)) pa_nil)))) (pe_lst pa_nil) (pe_lst (pa_cons pe_str (pa_cons (pe_callB (w_reprR (K := K) hg hr.units) (by rfl) T.b_repr (by decide +kernel) (pa_cons (pv 2) pa_nil)) pa_nil)))))))), ?_⟩
    refine ⟨_, rfl, v1, d1, 1, 8, rfl, r1, _, rfl, ?_⟩
    unfold dueV dueD at q
    cases c1 : btwD 1 8 d1 with
    | false =>
      rw [c1, if_neg Bool.false_ne_true] at q
      refine iteT ?_
      refine ⟨_, rfl, v1, d1, rfl, r1, h1.sh, h1.dep, szl (by have := h1.len; omega), by show 2 ≤ sizeLine; decide, fun p hp => ?_⟩
      exact q p _ (same_upd hp) upd_same
    | true =>
      rw [c1, if_pos rfl] at q
      refine iteF (g_next ?_)
      dsimp only
      obtain ⟨n, rfl, rfl, n1, n8⟩ := btw18 r1 c1
      refine ⟨_, rfl, _, rfl, v2, d2, (n : Int), rfl, r2, w2, fun H1 s1 => ?_⟩
      have ei : intD (.int (n : Int)) = (n : Int) := rfl
      rw [ei] at q
      refine ⟨_, rfl, ?_⟩
      cases c2 : arrowsD n d2 with
      | false =>
        rw [c2, if_neg Bool.false_ne_true] at q
        refine iteT ?_
        refine ⟨_, rfl, v2, d2, rfl, r2.mono s1, h2.sh, h2.dep, szl (by have := h2.len; omega), by show 2 ≤ sizeLine; decide, fun p hp => ?_⟩
        exact q p _ (s1.trans (same_upd hp)) upd_same
      | true =>
        rw [c2, if_pos rfl] at q
        refine iteF (g_next ?_)
        dsimp only
        obtain ⟨tab, rfl, gt⟩ := arrows_tab n8 c2
        obtain ⟨a, xs, rfl, ha, hxs⟩ := rp_tup (ds := tab.map dRow) r2
        have hl : xs.length = tab.length := by rw [rps_len hxs, List.length_map]
        have el : (elsD (dTab tab)).length = tab.length := by show (tab.map dRow).length = _; rw [List.length_map]
        rw [el] at q
        refine ⟨_, rfl, _, rfl, _, _, rfl, .inr ⟨_, sqT_mono s1 ha, rfl⟩, v3, d3, (tab.length : Int), by rw [hl] <;> rfl, r3.mono s1, w3, fun H2 s2 => ⟨_, rfl, ?_⟩⟩
        cases c3 : standsD tab.length d3 with
        | true =>
          rw [c3, if_pos rfl] at q
          refine iteT ⟨Nat.zero_le _, fun p hp => ?_⟩
          exact q p _ ((s1.trans s2).trans (same_upd hp)) upd_same
        | false =>
          rw [c3, if_neg Bool.false_ne_true] at q
          refine iteF ?_
          refine ⟨_, rfl, v3, d3, rfl, r3.mono (s1.trans s2), h3.sh, h3.dep, szl (by have := h3.len; omega), by show 2 ≤ sizeLine; decide, fun p hp => ?_⟩
          exact q p _ ((s1.trans s2).trans (same_upd hp)) upd_same
end K6


set_option Elab.async false
set_option linter.all false
set_option maxRecDepth 100000
set_option maxHeartbeats 4000000
namespace K6
open PySem PySem.Spec PyProof.Rows L2 Rw LamX
variable {P : Program} {w : World} {K : PySem.W.Frag} {mg : Str → Option Value} {base : Heap} {A : Ad} {fd : Fds}
theorem ok_row {B n : Nat} (hn : n ≤ B) : ∀ (row : List (Option Nat)), (∀ g, some g ∈ row → g < n) → okAll B (row.map dO) = true ∧ wtAll (row.map dO) ≤ 62 * row.length ∧ PyData.depthAll (row.map dO) = 0
  | [], _ => ⟨rfl, Nat.le_refl _, rfl⟩
  | o :: row, h => by
    obtain ⟨a, b, c⟩ := ok_row hn row fun g hg => h g (List.mem_cons_of_mem _ hg)
    rw [List.map_cons, List.length_cons]
    simp only [okAll, wtAll, PyData.depthAll, a, c]
    cases o with
    | none => exact ⟨rfl, by simp only [dO, wt]; omega, rfl⟩
    | some g =>
      have := h g (List.mem_cons_self ..)
      refine ⟨?_, by simp only [dO, wt]; omega, rfl⟩
      simp only [dO, okD]
      rw [decide_eq_true (by omega)]
      rfl
theorem ok_rows {B n w : Nat} (hn : n ≤ B) (w8 : w ≤ 8) : ∀ (tab : Tab), (∀ row ∈ tab, row.length = w ∧ ∀ g, some g ∈ row → g < n) → okAll B (tab.map dRow) = true ∧ wtAll (tab.map dRow) ≤ 503 * tab.length ∧ PyData.depthAll (tab.map dRow) ≤ 1
  | [], _ => ⟨rfl, Nat.le_refl _, Nat.zero_le _⟩
  | r :: tab, h => by
    obtain ⟨a, b, c⟩ := ok_rows hn w8 tab fun g hg => h g (List.mem_cons_of_mem _ hg)
    obtain ⟨h1, h2⟩ := h r (List.mem_cons_self ..)
    obtain ⟨a', b', c'⟩ := ok_row hn r h2
    rw [List.map_cons, List.length_cons]
    simp only [okAll, wtAll, PyData.depthAll, a]
    have e1 : okD B (dRow r) = okAll B (r.map dO) := by unfold dRow; simp only [okD]
    have e2 : wt (dRow r) = 5 + wtAll (r.map dO) := by unfold dRow; simp only [wt]
    have e3 : (dRow r).depth = PyData.depthAll (r.map dO) + 1 := by unfold dRow; simp only [PyData.depth]
    rw [e1, e2, e3, a', c']
    refine ⟨rfl, by omega, by omega⟩
theorem ok_tab {B n : Nat} {tab : Tab} (h : GoodT n tab) (hB : 200 ≤ B) : okD B (dTab tab) = true ∧ wt (dTab tab) ≤ 5 + 503 * tab.length ∧ (dTab tab).depth ≤ 2 := by
  have := h.n2
  obtain ⟨a, b, c⟩ := ok_rows (B := B) (n := tab.length) (by omega) h.w8 tab h.rows
  unfold dTab
  simp only [okD, wt, PyData.depth]
  exact ⟨a, by omega, by omega⟩
theorem ok_ints {B : Nat} : ∀ (ns : List Nat), (∀ g ∈ ns, g ≤ B) → okAll B (ns.map fun (k : Nat) => PyData.int (k : Int)) = true ∧ wtAll (ns.map fun (k : Nat) => PyData.int (k : Int)) ≤ 62 * ns.length ∧ PyData.depthAll (ns.map fun (k : Nat) => PyData.int (k : Int)) = 0
  | [], _ => ⟨rfl, Nat.le_refl _, rfl⟩
  | o :: row, h => by
    obtain ⟨a, b, c⟩ := ok_ints row fun g hg => h g (List.mem_cons_of_mem _ hg)
    have := h o (List.mem_cons_self ..)
    rw [List.map_cons, List.length_cons]
    simp only [okAll, wtAll, PyData.depthAll, a, c, okD, wt, PyData.depth]
    rw [decide_eq_true (show (o : Int).natAbs ≤ B by omega)]
    exact ⟨rfl, by omega, rfl⟩
theorem asc_len {m : Nat} : ∀ (ns : List Nat), Asc (ns.map Int.ofNat) → (∀ g ∈ ns, g < m) → ns.length ≤ m := by
  intro ns ha hm
  have key : ∀ i (h : i < ns.length), i ≤ ns[i] := by
    intro i
    induction i with
    | zero => intro h; exact Nat.zero_le _
    | succ i ih =>
      intro h
      have a := ih (by omega)
      have b := ha i (Int.ofNat ns[i]) (Int.ofNat ns[i + 1]) (by rw [List.getElem?_map, List.getElem?_eq_getElem (by omega)]; rfl) (by rw [List.getElem?_map, List.getElem?_eq_getElem h]; rfl)
      have b := Int.ofNat_lt.mp b
      omega
  by_cases c : ns.length = 0
  · omega
  · have a := key (ns.length - 1) (by omega)
    have b := hm _ (List.getElem_mem (show ns.length - 1 < ns.length by omega))
    omega
theorem ok_nats {B n : Nat} {ends : List Nat} (h : GoodE n ends) (hB : n ≤ B) : okD B (dNats ends) = true ∧ wt (dNats ends) ≤ 5 + 62 * n ∧ (dNats ends).depth ≤ 1 := by
  obtain ⟨a, b, c⟩ := ok_ints (B := B) ends fun g hg => by have := h.lt g hg; omega
  have := asc_len ends h.asc h.lt
  unfold dNats
  simp only [okD, wt, PyData.depth]
  exact ⟨a, by omega, by omega⟩
theorem show_of {B : Nat} {d : PyData} (hB : B < 10 ^ 46) (h : okD B d = true) (hd : d.depth ≤ 10) (hw : wt d ≤ 60000) : ShowS d := by
  obtain ⟨a, b, c⟩ := ok_shown hB d h
  exact ⟨c, hd, by omega, okS_lay a⟩
def spShows (K : PySem.W.Frag) (A : Ad) : Sp := fun vs H Q _ => ∃ (p a e : Addr) (n : Nat) (tab : Tab) (ends : List Nat), vs = [.ref p, .int (n : Int), .ref a, .ref e] ∧ RdAt K A.C H p n tab ends ∧ GoodT n tab ∧ GoodE tab.length ends ∧
  Dp K H (.ref a) (dTab tab) ∧ Dp K H (.ref e) (dNats ends) ∧ wt (dTab tab) ≤ 20000 ∧ ∀ H', Same H H' → Q (.bl true) H'
theorem ok_l_shows (T : Txt K mg A) (U : Funs K A fd) : FnOkG P w K mg base 7 A.l_shows fd.l_shows p_l_shows (spShows K A) := by
  have b_Reader_repr := U.b_Reader_repr
  have G_Reader_repr := ok_Reader_repr (P := P) (w := w) (base := base) T U
  have b_Reader_len := U.b_Reader_len
  have G_Reader_len := ok_Reader_len (P := P) (w := w) (base := base) T U
  have b_Reader_ends := U.b_Reader_ends
  have G_Reader_ends := ok_Reader_ends (P := P) (w := w) (base := base) T U
  have b_Reader_arrows := U.b_Reader_arrows
  have G_Reader_arrows := ok_Reader_arrows (P := P) (w := w) (base := base) T U
  have b_Reader_signs := U.b_Reader_signs
  have G_Reader_signs := ok_Reader_signs (P := P) (w := w) (base := base) T U
  refine okG U.F_l_shows sc_l_shows (fun vs H Q E h => ?_) (fun cdv A0 outer s H vs Q E hg hr h => ?_)
  · obtain ⟨p, a, e, n, tab, ends, rfl, _⟩ := h
    rfl
  · have hu := hu_of hr
    obtain ⟨p, a, e, n, tab, ends, rfl, R, gt, ge, da, de, hw, q⟩ := h
    refine ⟨_, (pss_cons (ps_set (i := 4) sc_l_shows.nd rfl (Or.inl rfl) (pe_op op_add_str (pe_op op_add_str (pe_op op_add_str (pe_op op_add_str pe_str (pe_callTy call_str_int (by rfl) T.b_str (by decide +kernel) (pa_cons (pv 1) pa_nil))) pe_str) (pe_callTy call_str_int (by rfl) T.b_str (by decide +kernel) (pa_cons (pe_callB (w_len (K := K)) (by rfl) T.b_len (by decide +kernel) (pa_cons (pv 2) pa_nil)) pa_nil))) pe_str))
       (pss_cons (ps_set (i := 5) sc_l_shows.nd rfl (Or.inl rfl) (pe_lst (pa_cons (pe_prop (pv 0) T.cl T.p_Reader_signs G_Reader_signs (hr.mono (by decide)) b_Reader_signs .nil pass0 rfl) (pa_cons (pe_prop (pv 0) T.cl T.p_Reader_arrows G_Reader_arrows (hr.mono (by decide)) b_Reader_arrows .nil pass0 rfl) (pa_cons (pe_prop (pv 0) T.cl T.p_Reader_ends G_Reader_ends (hr.mono (by decide)) b_Reader_ends .nil pass0 rfl) (pa_cons (pe_callB (call_lenO G_Reader_len (hr.mono (by decide)) T.own_len T.isf_len b_Reader_len pass0) (by rfl) T.b_len PySem.boot_len (pa_cons (pv 0) pa_nil)) (pa_cons (pe_callTy (call_boolN G_Reader_len (hr.mono (by decide)) T.nb T.own_len T.isf_len b_Reader_len pass0) (by rfl) T.b_bool (by decide +kernel) (pa_cons (pv 0) pa_nil)) pa_nil)))))))
       (pss_one (ps_ret (pe_and (pe_cmpR op_eq (pe_callB (w_reprD (K := K) hg hr) (by rfl) T.b_repr (by decide +kernel) (pa_cons (pv 5) pa_nil)) (pe_callB (w_reprD (K := K) hg hr) (by rfl) T.b_repr (by decide +kernel) (pa_cons (pe_lst (pa_cons (pv 1) (pa_cons (pv 2) (pa_cons (pv 3) (pa_cons (pe_callB (w_len (K := K)) (by rfl) T.b_len (by decide +kernel) (pa_cons (pv 2) pa_nil)) (pa_cons pe_bl pa_nil)))))) pa_nil)) (nomark _)) (pe_one (pe_cmpR op_eq (pe_callB (call_reprO G_Reader_repr (hr.mono (by decide)) T.own_repr T.isf_repr b_Reader_repr pass0) (by rfl) T.b_repr (by decide +kernel) (pa_cons (pv 0) pa_nil)) (pv 4) (nomark _)))))))), ?_⟩
    obtain ⟨dx, a', e', h1, h2, h3⟩ := R.ob
    obtain ⟨xa, xs, e1, hx, hds⟩ := dp_tup da
    obtain rfl := V.ref.inj e1
    have hl : xs.length = tab.length := by rw [dps_len hds, List.length_map]
    have n1 := gt.n1
    have n2 := gt.n2
    have w8 := gt.w8
    obtain ⟨ot, _, dt⟩ := ok_tab (B := 1000) gt (by decide)
    obtain ⟨oe, we, dee⟩ := ok_nats (B := 1000) ge (by omega)
    have a1 := str_small (k := n) (by omega)
    have a2 := str_small (k := tab.length) (by omega)
    have b1 : ("Reader(" : Str).length = 7 := rfl
    have b2 : (" signs, " : Str).length = 8 := rfl
    have b3 : (" stands)" : Str).length = 8 := rfl
    have shn : ShowS (.list [.int (n : Int), dTab tab, dNats ends, .int (tab.length : Int), .bool true]) := by
      refine show_of (B := 1000) (by decide +kernel) ?_ ?_ ?_
      · simp only [okD, okAll, ot, oe]
        rw [decide_eq_true (show (n : Int).natAbs ≤ 1000 by omega), decide_eq_true (show (tab.length : Int).natAbs ≤ 1000 by omega)]
        rfl
      · simp only [PyData.depth, PyData.depthAll]
        omega
      · simp only [wt, wtAll]
        omega
    refine ⟨_, rfl, (n : Int), rfl, log_small (by omega), _, _, rfl, rfl, szl (by omega), ?_⟩
    refine ⟨_, _, rfl, rfl, szl (by rw [strLen_append]; omega), ?_⟩
    refine ⟨_, rfl, _, _, rfl, .inr ⟨_, hx, rfl⟩, _, rfl, log_small (by omega), _, _, rfl, rfl, szl (by rw [strLen_append, strLen_append, hl]; omega), _, _, rfl, rfl, szl (by rw [strLen_append, strLen_append, strLen_append, hl]; omega), ?_⟩
    rw [hl]
    refine ⟨_, rfl, p, dx, _, rfl, h1, p, dx, _, _, rfl, h1, flds_signs _ _ _, ?_⟩
    refine ⟨_, rfl, p, dx, _, rfl, h1, p, dx, _, _, rfl, h1, flds_arrows _ _ _, ?_⟩
    refine ⟨_, rfl, p, dx, _, rfl, h1, p, dx, _, _, rfl, h1, flds_ends _ _ _, ?_⟩
    refine ⟨_, rfl, p, dx, _, rfl, h1, p, n, tab, ends, rfl, R, tab.length, rfl, by omega, ?_⟩
    refine ⟨_, rfl, p, dx, _, rfl, h1, p, n, tab, ends, rfl, R, tab.length, rfl, by omega, ?_⟩
    have nz : ((tab.length : Int) != 0) = true := by
      rw [bne_iff_ne]
      omega
    rw [nz]
    refine ⟨by show 5 ≤ sizeLine; decide, fun L hL => ?_⟩
    have s1 := same_upd (o := .lst [.int (n : Int), .ref a', .ref e', .int (tab.length : Int), .bl true]) hL
    refine ⟨_, rfl, L, _, rfl, .lst (lst_of upd_same) (.cons (.int _) (.cons (dp_mono s1 _ _ h2) (.cons (dp_mono s1 _ _ h3) (.cons (.int _) (.cons (.bl _) .nil))))), shn.sh, shn.dep, szl (by have := shn.len; omega), ?_⟩
    refine ⟨_, rfl, _, rfl, _, rfl, _, rfl, _, _, rfl, .inr ⟨_, sqT_mono s1 hx, rfl⟩, ?_⟩
    rw [hl]
    refine ⟨by show 5 ≤ sizeLine; decide, fun M hM => ?_⟩
    have s2 := s1.trans (same_upd (o := .lst [.int (n : Int), .ref a, .ref e, .int (tab.length : Int), .bl true]) hM)
    refine ⟨M, .list [.int (n : Int), dTab tab, dNats ends, .int (tab.length : Int), .bool true], rfl, .lst (lst_of upd_same) (.cons (.int _) (.cons (dp_mono s2 _ _ da) (.cons (dp_mono s2 _ _ de) (.cons (.int _) (.cons (.bl _) .nil))))), shn.sh, shn.dep, szl (by have := shn.len; omega), ?_⟩
    refine ⟨rfl, _, rfl, ?_⟩
    rw [decide_eq_true rfl]
    refine iteT ?_
    refine ⟨_, rfl, p, dx, _, rfl, s2 _ _ h1, p, n, tab, ends, rfl, R.mono s2, w8, by omega, _, rfl, ?_⟩
    refine ⟨_, rfl, rfl, ?_⟩
    have q2 := q _ s2
    have fin : ∀ c : Bool, c = true → Q (.bl c) (upd (upd H L (.lst [.int (n : Int), .ref a', .ref e', .int (tab.length : Int), .bl true])) M (.lst [.int (n : Int), .ref a, .ref e, .int (tab.length : Int), .bl true])) := fun c h => by
      rw [h]
      exact q2
    exact fin _ (decide_eq_true (by unfold lineOf; rfl))
end K6


set_option Elab.async false
set_option linter.all false
set_option maxRecDepth 100000
set_option maxHeartbeats 4000000
namespace K6
open PySem PySem.Spec PyProof.Rows L2 Rw LamX
variable {P : Program} {w : World} {K : PySem.W.Frag} {mg : Str → Option Value} {base : Heap} {A : Ad} {fd : Fds}
theorem tabs_keep {T : List (Addr × Str)} {H H1 : Hp} {b : Addr} (B : BarAt H b) (k : Keep b H H1) (t : Tabs T H) : Tabs T H1 := by
  obtain ⟨f, s, c, hb, _⟩ := B.ob
  intro p hp
  obtain ⟨ps, h1, h2, h3⟩ := t p hp
  refine ⟨ps, k.get (fun z => ?_) h1, h2, fun pos cv hc => ?_⟩
  · rw [z, hb] at h1
    cases h1
  · obtain ⟨c, e1, e2⟩ := h3 pos cv hc
    refine ⟨c, e1, k.get (fun z => ?_) e2⟩
    rw [z, hb] at e2
    unfold CodeO at e2
    cases e2
theorem keep_ext {b : Addr} {H H1 : Hp} (k : Keep b H H1) : ExtN (del b H) H1 := fun x o h _ => del_same b _ _ (k x o h)
theorem ext_del {b : Addr} {H H1 : Hp} (e : ExtN H H1) : ExtN (del b H) H1 := fun x o h n => e x o (del_same b _ _ h) n
theorem ext_join {b : Addr} {H H1 H2 : Hp} (e : ExtN (del b H) H1) (f : ExtN (del b H1) H2) : ExtN (del b H) H2 := fun x o h n => by
  have hx : x ≠ b := by
    intro z
    rw [z, del_none] at h
    cases h
  exact f x o ((del_ne hx).trans (e x o h n)) n
theorem told_shaped {n z : Str} (hn : PyData.canLay0 (.str n) = true) (hz : PyData.canLay0 (.str z) = true) : SeqAt.shaped (.list [.list [.str n, .str z], .list [.str n, .str z]]) = true := by
  show (((PyData.canLay0 (.str n) && (PyData.canLay0 (.str z) && true)) && ((PyData.canLay0 (.str n) && (PyData.canLay0 (.str z) && true)) && true)) && _) = true
  rw [hn, hz]
  rfl
theorem g_op2 {r : R2} {ta tb : TE} {σ : L2.St} {H : Hp} {Q : VK} (h : ta σ H fun x H1 => tb σ H1 fun y H2 => r x y H2 Q) : tOp r ta tb σ H Q := h
theorem g_or {t1 t2 : TT} {σ : L2.St} {H : Hp} {Q : Bool → Hp → Prop} (h : t1 σ H fun c H1 => if c = true then Q true H1 else t2 σ H1 Q) : tOr t1 t2 σ H Q := h
theorem g_test {te : TE} {σ : L2.St} {H : Hp} {Q : Bool → Hp → Prop} (h : te σ H fun x H1 => ∃ k, x = .bl k ∧ Q k H1) : tTest te σ H Q := h
theorem tabs_put {T : List (Addr × Str)} {H : Hp} {q : Addr} {xs ys : List V} (h : H q = some (.lst xs)) (t : Tabs T H) : Tabs T (upd H q (.lst ys)) := by
  intro p hp
  obtain ⟨ps, h1, h2, h3⟩ := t p hp
  refine ⟨ps, ?_, h2, fun pos cv hc => ?_⟩
  · rw [upd_ne fun z => ?_]
    · exact h1
    · rw [z, h] at h1
      cases h1
  · obtain ⟨c, e1, e2⟩ := h3 pos cv hc
    refine ⟨c, e1, ?_⟩
    rw [upd_ne fun z => ?_]
    · exact e2
    · rw [z, h] at e2
      unfold CodeO at e2
      cases e2
theorem beside_of {p : Addr} {n : Nat} {tab : Tab} {ends : List Nat} {H : Hp} (T : Txt K mg A) (R : RdAt K A.C H p n tab ends) : Beside K A.C (.ref p) H := by
  obtain ⟨dx, a, e, h1, _⟩ := R.ob
  exact .inl ⟨p, A.C, dx, _, rfl, h1, T.nf_C⟩

/-! ### a reader made by names -/
def gW {α : Type} : List α → List α → List α
  | [s], [e, n, a] => [s, n, a, e]
  | _, _ => []
theorem gW_rel {vs : List V} {us : List Value} {zs : List V} {ws : List Value} (r : Vals vs us) (q : Vals zs ws) : Vals (gW vs zs) (gW us ws) := by
  cases r with
  | nil => exact .nil
  | cons a b =>
    cases b with
    | cons c d => exact .nil
    | nil =>
      cases q with
      | nil => exact .nil
      | cons q1 q =>
        cases q with
        | nil => exact .nil
        | cons q2 q =>
          cases q with
          | nil => exact .nil
          | cons q3 q =>
            cases q with
            | cons q6 q => exact .nil
            | nil => exact .cons a (.cons q2 (.cons q3 (.cons q1 .nil)))
theorem one_of {α : Type} : ∀ {ws : List α}, ws.length = 1 → ∃ a, ws = [a]
  | [a], _ => ⟨a, rfl⟩
  | [], h => by simp at h
  | _ :: _ :: _, h => by simp at h
theorem three_of {α : Type} : ∀ {ws : List α}, ws.length = 3 → ∃ a b c, ws = [a, b, c]
  | [a, b, c], _ => ⟨a, b, c, rfl⟩
  | [], h => by simp at h
  | [_], h => by simp at h
  | [_, _], h => by simp at h
  | _ :: _ :: _ :: _ :: _, h => by simp at h
theorem kn_Reader_ends_signs_arrows_of {f : Addr} {fd : FuncData} (F : Fun K "__init__" "Reader.__init__" s_Reader_init f fd) : KBn K fd p_Reader_init 1 ["ends", "signs", "arrows"] gW gW := by
  obtain ⟨oc, od, kV, doc, pm, an, cdv, ct, osl, rfl, lk, hcd⟩ := F.ex
  refine ⟨fun s us ws _ hl hk => ?_, gW_rel⟩
  obtain ⟨u, rfl⟩ := one_of hl
  obtain ⟨a, b, c, rfl⟩ := three_of hk
  exact .of_eq rfl
/-! ### what a making came to -/
def CameOk (A : Ad) (H : Hp) (p : Addr) (v2 v3 : V) (d1 d2 d3 : PyData) : Prop := ∃ (n : Nat) (tab : Tab) (ends : List Nat) (r dx a e : Addr), 1 ≤ n ∧ GoodT n tab ∧ GoodE tab.length ends ∧ d1 = .int (n : Int) ∧ d2 = dTab tab ∧ d3 = dNats ends ∧ v2 = .ref a ∧ v3 = .ref e ∧
  H p = some (.lst [.str "came", .ref r]) ∧ H r = some (.ins A.C dx (flds n a e))
def Came (A : Ad) (H : Hp) (p : Addr) (v2 v3 : V) (d1 d2 d3 : PyData) : Prop := CameOk A H p v2 v3 d1 d2 d3 ∨ (dueD d1 d2 d3 < 3 ∧ H p = some (.lst (dueV d1 d2 d3)))
theorem Came.ext {p : Addr} {v2 v3 : V} {d1 d2 d3 : PyData} {H H' : Hp} (s : ExtN H H') (h : Came A H p v2 v3 d1 d2 d3) : Came A H' p v2 v3 d1 d2 d3 := by
  rcases h with ⟨n, tab, ends, r, dx, a, e, n1, gt, ge, z1, z2, z3, z4, z5, hp, hr⟩ | ⟨hd, hp⟩
  · exact .inl ⟨n, tab, ends, r, dx, a, e, n1, gt, ge, z1, z2, z3, z4, z5, (s _ _ hp fun ps z => by cases z), (s _ _ hr fun ps z => by cases z)⟩
  · exact .inr ⟨hd, s _ _ hp fun ps z => by cases z⟩
theorem Came.put {p q : Addr} {v2 v3 : V} {d1 d2 d3 : PyData} {H : Hp} {xs ys : List V} (hq : H q = some (.lst xs)) (hn : p ≠ q) (h : Came A H p v2 v3 d1 d2 d3) : Came A (upd H q (.lst ys)) p v2 v3 d1 d2 d3 := by
  rcases h with ⟨n, tab, ends, r, dx, a, e, n1, gt, ge, z1, z2, z3, z4, z5, hp, hr⟩ | ⟨hd, hp⟩
  · refine .inl ⟨n, tab, ends, r, dx, a, e, n1, gt, ge, z1, z2, z3, z4, z5, by rw [upd_ne hn]; exact hp, ?_⟩
    rw [upd_ne fun z => ?_]
    · exact hr
    · rw [z, hq] at hr
      cases hr
  · exact .inr ⟨hd, by rw [upd_ne hn]; exact hp⟩
theorem due_ok {n : Nat} {tab : Tab} {ends : List Nat} (n1 : 1 ≤ n) (gt : GoodT n tab) (ge : GoodE tab.length ends) : dueD (.int (n : Int)) (dTab tab) (dNats ends) = 3 := by
  have w8 := gt.w8
  have e1 : btwD 1 8 (.int (n : Int)) = true := by
    show (decide ((1 : Int) ≤ (n : Int)) && decide ((n : Int) ≤ 8)) = true
    rw [decide_eq_true (by omega), decide_eq_true (by omega)]
    rfl
  have el : (elsD (dTab tab)).length = tab.length := by show (tab.map dRow).length = _; rw [List.length_map]
  unfold dueD
  rw [if_pos e1, if_pos (show arrowsD (intD (.int (n : Int))) (dTab tab) = true from tab_arrows gt), el, if_pos (tab_stands ge)]
theorem due_told {d1 d2 d3 : PyData} (h1 : ShowS d1) (h2 : ShowS d2) (h3 : ShowS d3) (h : dueD d1 d2 d3 < 3) : ∃ nm z : Str, dueV d1 d2 d3 = [.str nm, .str z] ∧ PyData.canLay0 (.str nm) = true ∧ PyData.canLay0 (.str z) = true := by
  unfold dueV
  have : dueD d1 d2 d3 = 0 ∨ dueD d1 d2 d3 = 1 ∨ dueD d1 d2 d3 = 2 := by omega
  rcases this with e | e | e <;> rw [e]
  · exact ⟨_, _, rfl, by decide +kernel, h1.lay⟩
  · exact ⟨_, _, rfl, by decide +kernel, h2.lay⟩
  · exact ⟨_, _, rfl, by decide +kernel, h3.lay⟩
theorem reader_came (T : Txt K mg A) {H : Hp} {v1 v2 v3 : V} {d1 d2 d3 : PyData} {Q : VK} (r1 : Rp K H v1 d1) (r2 : Rp K H v2 d2) (r3 : Rp K H v3 d3) (h1 : ShowS d1) (h2 : ShowS d2) (h3 : ShowS d3) (w2 : wt d2 ≤ 50000) (w3 : wt d3 ≤ 50000)
    (k : ∀ p H', H p = none → Same H H' → Came A H' p v2 v3 d1 d2 d3 → Q (.ref p) H') {x dx : Addr} (hx : H x = none) (hdx : H dx = none) (hne : dx ≠ x) :
    spInit K A [.ref x, v1, v2, v3] (upd (upd H dx (.own x)) x (.ins A.C dx [])) (fun v H2 => v = .non ∧ ∀ p, H2 p = none → Q (.ref p) (upd H2 p (.lst [.str "came", .ref x])))
      (fun cls d H' => PySem.W.exmAny K cls [.ref A.x_WrongValue, .ref A.x_NoAnswer] = some true ∧ WordOf K A cls d H' Q) := by
  have sM : Same H (upd (upd H dx (.own x)) x (.ins A.C dx [])) := (same_upd hdx).trans (same_upd (by rw [upd_ne (fun z => hne z.symm)]; exact hx))
  refine ⟨x, dx, v1, d1, v2, d2, v3, d3, rfl, upd_same, r1.mono sM, r2.mono sM, r3.mono sM, w2, w3, fun z => ?_, fun z => ?_, fun z => ?_, fun z => ?_⟩
  · intro H' d s hd
    have s' := sM.trans (s.trans (same_upd (o := .xd [("given", v1)]) hd))
    refine ⟨T.exm_InvalidSigns, d, rfl, .inr (.inr ⟨rfl, v1, d1, upd_same, r1.mono s', h1, fun p H'' hp s2 h => ?_⟩)⟩
    exact k p H'' (Same.free s' hp) (s'.trans s2) (.inr ⟨by rw [z]; decide, by rw [h]; unfold dueV; rw [z]; rfl⟩)
  · intro H' d s hd
    have s' := sM.trans (s.trans (same_upd (o := .xd [("given", v2)]) hd))
    refine ⟨T.exm_InvalidArrows, d, rfl, .inl ⟨rfl, v2, d2, upd_same, r2.mono s', h2, fun p H'' hp s2 h => ?_⟩⟩
    exact k p H'' (Same.free s' hp) (s'.trans s2) (.inr ⟨by rw [z]; decide, by rw [h]; unfold dueV; rw [z]; rfl⟩)
  · intro H' d s hd
    have s' := sM.trans (s.trans (same_upd (o := .xd [("given", v3)]) hd))
    refine ⟨T.exm_InvalidEnds, d, rfl, .inr (.inl ⟨rfl, v3, d3, upd_same, r3.mono s', h3, fun p H'' hp s2 h => ?_⟩)⟩
    exact k p H'' (Same.free s' hp) (s'.trans s2) (.inr ⟨by rw [z]; decide, by rw [h]; unfold dueV; rw [z]; rfl⟩)
  · rintro n tab ends a e rfl rfl rfl rfl rfl rfl n1 gt ge H' keep ob
    have s' : Same H H' := fun y o hy => keep y o (sM y o hy) (ne_of_none hy hx)
    refine ⟨rfl, fun p hp => ?_⟩
    have s2 := s'.trans (same_upd (o := .lst [.str "came", .ref x]) hp)
    exact k p _ (Same.free s' hp) s2 (.inl ⟨n, tab, ends, x, dx, a, e, n1, gt, ge, rfl, rfl, rfl, rfl, rfl, upd_same, same_upd hp _ _ ob⟩)
end K6


set_option Elab.async false
set_option linter.all false
set_option maxRecDepth 100000
set_option maxHeartbeats 4000000
namespace K6
open PySem PySem.Spec PyProof.Rows L2 Rw LamX
variable {P : Program} {w : World} {K : PySem.W.Frag} {mg : Str → Option Value} {base : Heap} {A : Ad} {fd : Fds}
/-! ### readers of things turned about -/
structure InD (t : Nat) (d : PyData) : Prop where
  ok : okD (okBig + 7 * t) d = true
  wt : wt d + 200 ≤ 3000 * 2 ^ t
  dep : d.depth ≤ 2 + 2 * t
theorem InD.up {t : Nat} {d : PyData} (h : InD t d) : InD (t + 1) d :=
  ⟨okD_mono (by omega) _ h.ok, by have := h.wt; rw [Nat.pow_succ]; omega, by have := h.dep; omega⟩
theorem InD.tw {t : Nat} {d d' : PyData} (h : InD t d) (w : TwD (okBig + 7 * t) d d') : InD (t + 1) d' :=
  ⟨by have := w.ok; rw [show okBig + 7 * (t + 1) = okBig + 7 * t + 7 by omega]; exact this, by have := h.wt; have := w.wt; rw [Nat.pow_succ]; omega, by have := h.dep; have := w.dep; omega⟩
theorem InD.show {t : Nat} {d : PyData} (ht : t ≤ 2) (h : InD t d) : ShowS d := by
  have hw := h.wt
  have hp : 2 ^ t ≤ 4 := Nat.pow_le_pow_right (by decide) ht
  have hm : 3000 * 2 ^ t ≤ 12000 := by omega
  refine show_of (B := okBig + 7 * t) ?_ h.ok (by have := h.dep; omega) (by omega)
  have : okBig + 7 * t ≤ okBig + 14 := by omega
  exact Nat.lt_of_le_of_lt this (by decide +kernel)
theorem InD.small {t : Nat} {d : PyData} (ht : t ≤ 2) (h : InD t d) : PyData.depth d ≤ 12 ∧ K6.wt d ≤ 20000 := by
  have hw := h.wt
  have hp : 2 ^ t ≤ 4 := Nat.pow_le_pow_right (by decide) ht
  have hd := h.dep
  constructor <;> omega
theorem row_inj {r r' : List (Option Nat)} (h : r.map dO = r'.map dO) : r = r' := by
  refine List.map_inj_right (fun x y h => ?_) |>.mp h
  cases x <;> cases y
  · rfl
  · cases h
  · cases h
  · have := PyData.int.inj h
    congr 1
    omega
theorem tab_inj {t t' : Tab} (h : dTab t = dTab t') : t = t' := List.map_inj_right (fun x y h => row_inj (PyData.tuple.inj h)) |>.mp (PyData.tuple.inj h)
theorem nats_inj {t t' : List Nat} (h : dNats t = dNats t') : t = t' := List.map_inj_right (fun x y h => by have := PyData.int.inj h; omega) |>.mp (PyData.tuple.inj h)
def spOneRight (K : PySem.W.Frag) (A : Ad) : Sp := fun vs H Q _ => ∃ (b : Addr) (v1 v2 v3 : V) (d1 d2 d3 : PyData), vs = [.ref b, v1, v2, v3] ∧ BarAt H b ∧ Tabs (tabsOf A) H ∧ Rp K (del b H) v1 d1 ∧ Rp K (del b H) v2 d2 ∧ Rp K (del b H) v3 d3 ∧ InD 0 d1 ∧ InD 0 d2 ∧ InD 0 d3 ∧
  ∀ H', ExtN (del b H) H' → BarAt H' b → Tabs (tabsOf A) H' → Q (.bl true) H'
theorem ok_l_one_right (T : Txt K mg A) (U : Funs K A fd) (TBs : ∀ p ∈ codesOf A, TabB base mg p.1 p.2) : FnOkG P w K mg base 53 A.l_one_right fd.l_one_right p_l_one_right (spOneRight K A) := by
  have b_l_shows := U.b_l_shows
  have G_l_shows := ok_l_shows (P := P) (w := w) (base := base) T U
  have b_Reader_init := U.b_Reader_init
  have GX_Reader_init := okX_Reader_init (P := P) (w := w) (base := base) T U
  have b_l_due := U.b_l_due
  have G_l_due := ok_l_due (P := P) (w := w) (base := base) T U
  have b_l_one_of := U.b_l_one_of
  have G_l_one_of := ok_l_one_of (P := P) (w := w) (base := base) T U
  have b_l_twist := U.b_l_twist
  have G_l_twist := ok_l_twist (P := P) (w := w) (base := base) T U
  have b_l_dip := U.b_l_dip
  have G_l_dip := ok_l_dip (P := P) (w := w) (base := base) T U
  have kn_Reader_ends_signs_arrows := kn_Reader_ends_signs_arrows_of (U.F_Reader_init)
  have TB : TabB base mg A.c_l_one_right A.t_l_one_right := TBs (A.c_l_one_right, A.t_l_one_right) (by simp [codesOf])
  have hmT : (A.t_l_one_right, (("_law_one_right" : Str) ++ ".<locals>.") ++ "<lambda>") ∈ tabsOf A := by simp [tabsOf]
  have hun : ∀ p ∈ tabsOf A, p.1 = A.t_l_one_right → p.2 = (("_law_one_right" : Str) ++ ".<locals>.") ++ "<lambda>" := by
    intro p hp e
    simp only [tabsOf, List.mem_cons, List.not_mem_nil, or_false] at hp
    rcases hp with rfl | rfl
    · rfl
    · exact absurd e.symm T.ne_l_one_right_law
  refine okGC U.F_l_one_right sc_l_one_right (fun vs H Q E h => ?_) (fun A0 outer s H vs Q E hg hr h => ?_)
  · obtain ⟨b, v1, v2, v3, d1, d2, d3, rfl, _⟩ := h
    rfl
  · have hu := hu_of hr
    obtain ⟨b, v1, v2, v3, d1, d2, d3, rfl, B, tH, r1, r2, r3, i1, i2, i3, k⟩ := h
    refine ⟨_, (pss_cons (ps_for PassesOwn.never rfl (pi_range1 (by rfl) T.b_range (pa_cons (pe_call G_l_one_of (hr.mono (by decide)) (by rfl) T.m_l_one_of T.k_l_one_of b_l_one_of .nil pass0 (pa_cons (pv 0) (pa_cons (pe_lst (pa_cons pe_int (pa_cons pe_int (pa_cons pe_int (pa_cons pe_int (pa_cons pe_int pa_nil)))))) pa_nil))) pa_nil)) (pg_name (i := 4) sc_l_one_right.nd rfl (Or.inl rfl))
       (pss_cons (ps_set (i := 5) sc_l_one_right.nd rfl (Or.inl rfl) (pe_call G_l_dip (hr.mono (by decide)) (by rfl) T.m_l_dip T.k_l_dip b_l_dip .nil pass0 (pa_cons (pv 0) (pa_cons pe_int pa_nil))))
       (pss_cons (ps_set (i := 1) sc_l_one_right.nd rfl (Or.inr rfl) (pe_ifExp (pt_cmpR op_eq (pv 5) pe_int (nomark _)) (pe_call G_l_twist (hr.mono (by decide)) (by rfl) T.m_l_twist T.k_l_twist b_l_twist .nil pass0 (pa_cons (pv 0) (pa_cons (pv 1) pa_nil))) (pv 1)))
       (pss_cons (ps_set (i := 2) sc_l_one_right.nd rfl (Or.inr rfl) (pe_ifExp (pt_cmpR (w_in (K := K)) (pv 5) (pe_lst (pa_cons pe_int (pa_cons pe_int pa_nil))) (by rfl)) (pe_call G_l_twist (hr.mono (by decide)) (by rfl) T.m_l_twist T.k_l_twist b_l_twist .nil pass0 (pa_cons (pv 0) (pa_cons (pv 2) pa_nil))) (pv 2)))
       (pss_one (ps_set (i := 3) sc_l_one_right.nd rfl (Or.inr rfl) (pe_ifExp (pt_cmpR op_eq (pv 5) pe_int (nomark _)) (pe_call G_l_twist (hr.mono (by decide)) (by rfl) T.m_l_twist T.k_l_twist b_l_twist .nil pass0 (pa_cons (pv 0) (pa_cons (pv 3) pa_nil))) (pv 3))))))))
       (pss_cons (ps_par (i := 6) (j := 7) (by rfl) sc_l_one_right.nd rfl rfl (by decide) rfl rfl (pa_cons (pe_callG G_l_due hg (hr.mono (by decide)) (by rfl) T.m_l_due T.k_l_due b_l_due (pa_cons (pv 1) (pa_cons (pv 2) (pa_cons (pv 3) pa_nil)))) (pa_cons (pe_lst (pa_cons (pe_came (KK := 20) T U TB rfl hmT hun hg (hr.mono (by decide)) (by decide) (lamS_by (by rfl)) rfl (fun _ _ _ _ _ => rfl) (fun A2 o2 s2 H2 E2 f2 c2 hr2 => (pe_make T.mk_Reader GX_Reader_init (hr2.mono (by decide)) (by rfl) T.m_Reader b_Reader_init .nil (passX (E := E2) rfl rfl rfl rfl) (pa_cons (pv 1) (pa_cons (pv 2) (pa_cons (pv 3) pa_nil)))))) pa_nil)) pa_nil)) (by rfl))
       (pss_cons (ps_expr (w_bm (K := K) PySem.F.plainAttrs_list PySem.F.slot_list_append PySem.F.type_list_append mt_append (pv 7) (pa_cons (pe_came (KK := 20) T U TB rfl hmT hun hg (hr.mono (by decide)) (by decide) (lamS_by (by rfl)) rfl (fun _ _ _ _ _ => rfl) (fun A2 o2 s2 H2 E2 f2 c2 hr2 => (pe_makeK0 T.mk_Reader GX_Reader_init (hr2.mono (by decide)) (by rfl) T.m_Reader kn_Reader_ends_signs_arrows (passX (E := E2) rfl rfl rfl rfl) (pk_cons (pv 3) (pk_cons (pv 1) (pk_cons (pv 2) pk_nil)))))) pa_nil)))
       (pss_cons (ps_if (pt_cmpR (w_neD (K := K) hr.units) (pv 6) (pe_lst pa_nil) (nomark _)) (pss_one (ps_ret (pe_cmpR (w_eqD (K := K) hr.units) (pv 7) (pe_op op_rep (pe_lst (pa_cons (pv 6) pa_nil)) pe_int) (nomark _)))) pss_nil)
       (pss_cons (ps_if (pt_cmpR (w_neD (K := K) hr.units) (pe_lc (own := [("_law_each", 8)]) (g := gName 8) (tt := tYes) (by rfl) sc_l_one_right.nd (w_piL (K := K) (pv 7)) (blkOk_by (own := [("_law_each", 8)]) (by rfl)) (fun _ _ _ _ _ => (pg_name (i := 8) sc_l_one_right.nd rfl (Or.inl rfl))) (fun _ _ _ _ _ => pts_nil) (fun _ _ _ _ _ => (pe_ix (w_ixL (K := K)) (pv 8) pe_int (fun _ _ => rfl)))) (pe_op op_rep (pe_lst (pa_cons pe_str pa_nil)) pe_int) (nomark _)) (pss_one (ps_ret pe_bl)) pss_nil)
       (pss_one (ps_ret (pe_callB (w_all (K := K) rfl) (by rfl) T.b_all (by decide +kernel) (pa_cons (pe_lc (own := [("_law_each", 8)]) (g := gName 8) (tt := tYes) (by rfl) sc_l_one_right.nd (w_piL (K := K) (pv 7)) (blkOk_by (own := [("_law_each", 8)]) (by rfl)) (fun _ _ _ _ _ => (pg_name (i := 8) sc_l_one_right.nd rfl (Or.inl rfl))) (fun _ _ _ _ _ => pts_nil) (fun _ _ _ _ _ => (pe_callG G_l_shows hg (hr.mono (by decide)) (by rfl) T.m_l_shows T.k_l_shows b_l_shows (pa_cons (pe_ix (w_ixL (K := K)) (pv 8) pe_int (fun _ _ => rfl)) (pa_cons (pv 1) (pa_cons (pv 2) (pa_cons (pv 3) pa_nil))))))) pa_nil))))))))), ?_⟩
    refine ⟨_, rfl, by show 5 ≤ sizeLine; decide, fun m hm => ?_⟩
    have nem : m ≠ b := bar_ne B hm
    have Bm := bar_upd (o := .lst [.int 0, .int 1, .int 1, .int 1, .int 2]) B nem
    refine ⟨b, m, [.int 0, .int 1, .int 1, .int 1, .int 2], rfl, Bm, lst_of (by rw [del_ne nem]; exact upd_same), by show 0 < 5; decide, by show 5 ≤ 1000; decide, fun x H1 hx kp1 B1 => ?_⟩
    obtain ⟨n, n2, rfl⟩ : ∃ n : Nat, n ≤ 2 ∧ x = .int (n : Int) := by
      simp at hx
      rcases hx with rfl | rfl | rfl
      · exact ⟨0, by decide, rfl⟩
      · exact ⟨1, by decide, rfl⟩
      · exact ⟨2, by decide, rfl⟩
    have k1 : Keep b H H1 := (Keep.of (same_upd hm)).trans kp1
    refine ⟨(n : Int), rfl, by omega, by omega, ?_⟩
    rw [Int.toNat_natCast]
    refine for_range (lo := 0) (n := n) (fun t σ H' => ∃ v1 v2 v3 d1 d2 d3 y4 y5, σ = [some (.ref b), some v1, some v2, some v3, y4, y5, none, none, none] ∧ Keep b H H' ∧ BarAt H' b ∧ Rp K (del b H') v1 d1 ∧ Rp K (del b H') v2 d2 ∧ Rp K (del b H') v3 d3 ∧ InD t d1 ∧ InD t d2 ∧ InD t d3) ?_ ?_ ?_
    · exact ⟨v1, v2, v3, d1, d2, d3, none, none, rfl, k1, B1, r1.mono k1, r2.mono k1, r3.mono k1, i1, i2, i3⟩
    · rintro t σ H2 ht ⟨v1, v2, v3, d1, d2, d3, y4, y5, rfl, k2, B2, r1, r2, r3, i1, i2, i3⟩
      refine ⟨_, rfl, b, 4, rfl, B2, by decide, by decide, fun wy H3 hwy k3 B3 => ?_⟩
      have ht2 : t ≤ 2 := by omega
      have r1 := r1.mono k3
      have r2 := r2.mono k3
      have r3 := r3.mono k3
      dsimp only
      refine g_seq (g_asg (g_viaP (fun v H' => Keep b H3 H' ∧ BarAt H' b ∧ ∃ d', Rp K (del b H') v d' ∧ InD (t + 1) d') (fun Q' h => ?_) ?_))
      · refine ⟨_, rfl, rfl, _, rfl, ?_⟩
        cases decide (V.int (wy : Int) = V.int 0) with
        | true => exact iteT ⟨_, rfl, _, rfl, b, v1, d1, okBig + 7 * t, rfl, B3, r1, by omega, i1.ok, (i1.small ht2).2, (i1.small ht2).1, fun v' d' H' k' B' r' tw => h _ _ ⟨k', B', d', r', i1.tw tw⟩⟩
        | false => exact iteF ⟨_, rfl, h _ _ ⟨Keep.refl b H3, B3, d1, r1, i1.up⟩⟩
      rintro v1' H4 ⟨k4, B4, d1', r1', i1'⟩
      have r2 := r2.mono k4
      have r3 := r3.mono k4
      dsimp only
      refine g_seq (g_asg (g_viaP (fun v H' => Keep b H4 H' ∧ BarAt H' b ∧ ∃ d', Rp K (del b H') v d' ∧ InD (t + 1) d') (fun Q' h => ?_) ?_))
      · refine ⟨_, rfl, by show 2 ≤ sizeLine; decide, fun p hp => ?_⟩
        have np := bar_ne B4 hp
        have kp := Keep.of (b := b) (same_upd (o := .lst [.int 1, .int 2]) hp)
        have Bp := bar_upd (o := .lst [.int 1, .int 2]) B4 np
        refine ⟨p, _, rfl, .inl (lst_of upd_same), rfl, rfl, _, rfl, ?_⟩
        cases (if false = true then !inV (V.int (wy : Int)) [.int 1, .int 2] else inV (V.int (wy : Int)) [.int 1, .int 2]) with
        | true => exact iteT ⟨_, rfl, _, rfl, b, v2, d2, okBig + 7 * t, rfl, Bp, r2.mono kp, by omega, i2.ok, (i2.small ht2).2, (i2.small ht2).1, fun v' d' H' k' B' r' tw => h _ _ ⟨kp.trans k', B', d', r', i2.tw tw⟩⟩
        | false => exact iteF ⟨_, rfl, h _ _ ⟨kp, Bp, d2, r2.mono kp, i2.up⟩⟩
      rintro v2' H5 ⟨k5, B5, d2', r2', i2'⟩
      have r3 := r3.mono k5
      dsimp only
      refine g_asg (g_viaP (fun v H' => Keep b H5 H' ∧ BarAt H' b ∧ ∃ d', Rp K (del b H') v d' ∧ InD (t + 1) d') (fun Q' h => ?_) ?_)
      · refine ⟨_, rfl, rfl, _, rfl, ?_⟩
        cases decide (V.int (wy : Int) = V.int 3) with
        | true => exact iteT ⟨_, rfl, _, rfl, b, v3, d3, okBig + 7 * t, rfl, B5, r3, by omega, i3.ok, (i3.small ht2).2, (i3.small ht2).1, fun v' d' H' k' B' r' tw => h _ _ ⟨k', B', d', r', i3.tw tw⟩⟩
        | false => exact iteF ⟨_, rfl, h _ _ ⟨Keep.refl b H5, B5, d3, r3, i3.up⟩⟩
      rintro v3' H6 ⟨k6, B6, d3', r3', i3'⟩
      exact ⟨v1', v2', v3', d1', d2', d3', _, _, rfl, k2.trans (k3.trans (k4.trans (k5.trans k6))), B6, r1'.mono (k5.trans k6), r2'.mono k6, r3', i1', i2', i3'⟩
    · rintro σ H2 ⟨v1, v2, v3, d1, d2, d3, y4, y5, rfl, k2, B2, r1, r2, r3, i1, i2, i3⟩
      have i1s := i1.show n2
      have i2s := i2.show n2
      have i3s := i3.show n2
      have w2 := (i2.small n2).2
      have w3 := (i3.small n2).2
      have R1 := r1.mono (del_same b)
      have R2 := r2.mono (del_same b)
      have R3 := r3.mono (del_same b)
      have t2 := tabs_keep B k2 tH
      dsimp only
      refine g_seq ?_
      refine ⟨_, rfl, _, rfl, _, rfl, v1, v2, v3, d1, d2, d3, rfl, R1, R2, R3, i1s, i2s, i3s, by omega, by omega, fun l H3 s3 hl => ?_⟩
      refine ⟨t2.ext s3, fun H4 e4 t4 => ?_⟩
      have e24 : ExtN H2 H4 := (ExtN.of s3).trans e4
      refine ⟨_, rfl, _, rfl, _, rfl, fun x dx hx hdx hne => reader_came T (Rp.extN e24 R1) (Rp.extN e24 R2) (Rp.extN e24 R3) i1s i2s i3s (by omega) (by omega) (fun p H5 hp s5 came => ?_) hx hdx hne⟩
      refine ⟨by show 1 ≤ sizeLine; decide, fun q hq => ?_⟩
      refine ⟨_, _, rfl, ?_⟩
      have e25 : ExtN H2 H5 := e24.trans (ExtN.of s5)
      have s6 := same_upd (o := .lst [.ref p]) hq
      have t6 := (t4.ext s5).ext s6
      have e26 := e25.trans (ExtN.of s6)
      dsimp only
      refine g_seq ?_
      refine ⟨_, rfl, .inl ⟨rfl, _, lst_of upd_same⟩, t6, fun H7 e7 t7 => ?_⟩
      have e27 := e26.trans e7
      refine ⟨_, rfl, _, rfl, _, rfl, rfl, rfl, fun x dx hx hdx hne => reader_came T (Rp.extN e27 R1) (Rp.extN e27 R2) (Rp.extN e27 R3) i1s i2s i3s (by omega) (by omega) (fun p2 H8 hp2 s8 came2 => ?_) hx hdx hne⟩
      have q7 : H7 q = some (.lst [.ref p]) := e7 _ _ upd_same fun ps z => by cases z
      have q8 : H8 q = some (.lst [.ref p]) := s8 _ _ q7
      refine ⟨q, [.ref p], _, rfl, rfl, q8, by show 1 < sizeLine; decide, ?_⟩
      have x58 : ExtN H5 H8 := ((ExtN.of s6).trans e7).trans (ExtN.of s8)
      have x59 : ExtN H5 (upd H8 q (.lst ([.ref p] ++ [.ref p2]))) := fun x o h n => by rw [upd_ne (ne_of_none h hq)]; exact x58 x o h n
      have c1 := came.ext x59
      have c2 := came2.put (ys := [.ref p] ++ [.ref p2]) q8 (ne_of_none q7 hp2).symm
      have e29 := e25.trans x59
      have t9 : Tabs (tabsOf A) (upd H8 q (.lst ([.ref p] ++ [.ref p2]))) := tabs_put q8 (t7.ext s8)
      have l9 : (upd H8 q (.lst ([.ref p] ++ [.ref p2]))) l = some (.lst (dueV d1 d2 d3)) := by
        have l5 : H5 l = some (.lst (dueV d1 d2 d3)) := s5 _ _ (e4 _ _ hl fun ps z => by cases z)
        exact x59 _ _ l5 fun ps z => by cases z
      have q9 : (upd H8 q (.lst ([.ref p] ++ [.ref p2]))) q = some (.lst [.ref p, .ref p2]) := upd_same
      generalize upd H8 q (.lst ([.ref p] ++ [.ref p2])) = H9 at c1 c2 e29 t9 l9 q9
      have B9 := B2.ext e29
      have fin : ∀ H', Same H9 H' → Q (.bl true) H' := fun H' s => k H' (ext_join (keep_ext k2) (ext_del (e29.trans (ExtN.of s)))) (bar_same B9 s) (t9.ext s)
      have Q1 := Rp.extN e29 R1
      have Q2 := Rp.extN e29 R2
      have Q3 := Rp.extN e29 R3
      clear q8 q7 came came2 x58 x59 s8 s6 hp2
      rcases c1 with ⟨n, tab, ends, r, dx, a, e, n1, gt, ge, rfl, rfl, rfl, rfl, rfl, hp9, hr9⟩ | ⟨hd, hp9⟩
      · obtain ⟨rfl⟩ : v1 = .int (n : Int) := by cases Q1; rfl
        have d2c := due_ok n1 gt ge
        obtain ⟨n', tab', ends', r', dx', a', e', _, _, _, z1, z2, z3, z4, z5, hp9', hr9'⟩ : CameOk A H9 p2 (.ref a) (.ref e) (.int (n : Int)) (dTab tab) (dNats ends) := by
          rcases c2 with h | ⟨h, _⟩
          · exact h
          · omega
        obtain rfl : n = n' := by have := PyData.int.inj z1; omega
        obtain rfl := tab_inj z2
        obtain rfl := nats_inj z3
        obtain rfl := V.ref.inj z4
        obtain rfl := V.ref.inj z5
        have da := Rp.dp _ Q2 (noDict_tab _)
        have de := Rp.dp _ Q3 (noDict_nats _)
        have RR : ∀ x, x ∈ [V.ref p, V.ref p2] → ∃ px rx, x = .ref px ∧ H9 px = some (.lst [.str "came", .ref rx]) ∧ RdAt K A.C H9 rx n tab ends := by
          intro x hx
          simp only [List.mem_cons, List.not_mem_nil, or_false] at hx
          rcases hx with rfl | rfl
          · exact ⟨p, r, rfl, hp9, ⟨_, a, e, hr9, da, de⟩⟩
          · exact ⟨p2, r', rfl, hp9', ⟨_, a, e, hr9', da, de⟩⟩
        have ev : dueV (.int (n : Int)) (dTab tab) (dNats ends) = [] := by unfold dueV; rw [d2c]; rfl
        rw [ev] at l9
        dsimp only
        refine ⟨_, rfl, Nat.zero_le _, fun l10 h10 => ⟨.list [], .list [], .lst (lst_of (same_upd h10 _ _ l9)) .nil, .lst (lst_of upd_same) .nil, rfl, rfl, _, rfl, ?_⟩⟩
        refine iteF (g_next ?_)
        have s10 := same_upd (o := .lst []) h10
        dsimp only
        refine g_seq (g_ifS (g_tst (cL (xs := [.ref p, .ref p2]) (fun _ => [.str "came"]) (fun R r => ?_) (lst_of (s10 _ _ q9)) (fun i => Nat.le_refl 1) (by show 2 < 100000; decide) ?_ (fun i x hi => turn_yes fun H11 R s11 r11 => ?_) (fun D H11 hD s11 h11 => ?_))))
        · exact ⟨_, rfl, r⟩
        · exact fun _ => rfl
        · obtain ⟨px, rx, rfl, hpx, _⟩ := RR x (List.mem_of_getElem? hi)
          exact ⟨_, rfl, px, _, 0, _, rfl, rfl, lst_of (s11 _ _ (s10 _ _ hpx)), rfl, r11 H11 (Same.refl _)⟩
        rw [replicate_pre] at h11
        refine ⟨by show 1 ≤ sizeLine; decide, fun a1 g1 => ⟨a1, 2, [.str "came"], rfl, rfl, upd_same, by decide, by decide, szl (show 1 * 2 ≤ 100000 by decide), fun a2 g2 => ?_⟩⟩
        have s12 := (same_upd (o := .lst [.str "came"]) g1).trans (same_upd (o := .lst (List.replicate (2 : Int).toNat [V.str "came"]).flatten) g2)
        refine ⟨.list [.str "came", .str "came"], .list [.str "came", .str "came"], .lst (lst_of (s12 _ _ h11)) (.cons (.str _) (.cons (.str _) .nil)), .lst (lst_of upd_same) (.cons (.str _) (.cons (.str _) .nil)), by decide +kernel, by decide +kernel, _, rfl, ?_⟩
        have ecc : PyData.eqv (.list [.str "came", .str "came"]) (.list [.str "came", .str "came"]) = true := eqv_same (by decide +kernel)
        rw [ecc]
        refine iteF (g_next ?_)
        have s13 := (s10.trans s11).trans s12
        dsimp only
        refine g_ret (g_cb (cL (xs := [.ref p, .ref p2]) (fun _ => [.bl true]) (fun R r => ?_) (lst_of (s13 _ _ q9)) (fun i => Nat.le_refl 1) (by show 2 < 100000; decide) ?_ (fun i x hi => turn_yes fun H14 R s14 r14 => ?_) (fun D H14 hD s14 h14 => ?_)))
        · exact ⟨_, rfl, r⟩
        · exact fun _ => rfl
        · obtain ⟨px, rx, rfl, hpx, Rx⟩ := RR x (List.mem_of_getElem? hi)
          have sA := s13.trans s14
          refine ⟨_, rfl, px, _, 1, _, rfl, rfl, lst_of (sA _ _ hpx), rfl, _, rfl, _, rfl, _, rfl, rx, a, e, n, tab, ends, rfl, Rx.mono sA, gt, ge, dp_mono sA _ _ da, dp_mono sA _ _ de, by omega, fun H15 s15 => ?_⟩
          exact r14 H15 s15
        rw [replicate_pre] at h14
        refine ⟨D, [true, true], rfl, lst_of h14, ?_⟩
        exact fin _ (s13.trans s14)
      · obtain ⟨nm, z, ev, ln, lz⟩ := due_told i1s i2s i3s hd
        have hp9' : H9 p2 = some (.lst (dueV d1 d2 d3)) := by
          rcases c2 with ⟨n', tab', ends', r', dx', a', e', n1, gt, ge, rfl, rfl, rfl, _⟩ | ⟨_, h⟩
          · have := due_ok n1 gt ge
            omega
          · exact h
        rw [ev] at l9 hp9 hp9'
        have dW : ∀ {H' : Hp} {q : Addr}, H' q = some (.lst [.str nm, .str z]) → Dp K H' (.ref q) (.list [.str nm, .str z]) := fun h => .lst (lst_of h) (.cons (.str _) (.cons (.str _) .nil))
        have sh1 : SeqAt.shaped (.list [.str nm, .str z]) = true := shaped_mk (by show (PyData.canLay0 (.str nm) && (PyData.canLay0 (.str z) && true)) = true; rw [ln, lz]; rfl) (by show (1 : Nat) ≤ 64; decide)
        have shp := told_shaped ln lz
        dsimp only
        refine ⟨_, rfl, Nat.zero_le _, fun l10 h10 => ⟨.list [.str nm, .str z], .list [], dW (same_upd h10 _ _ l9), .lst (lst_of upd_same) .nil, sh1, rfl, _, rfl, ?_⟩⟩
        refine iteT ?_
        have s10 := same_upd (o := .lst []) h10
        refine ⟨_, rfl, _, rfl, by show 1 ≤ sizeLine; decide, fun a2 h2 => ?_⟩
        have s2 := s10.trans (same_upd (o := .lst [.ref l]) h2)
        refine ⟨a2, 2, [.ref l], rfl, rfl, upd_same, by decide, by decide, szl (show 1 * 2 ≤ 100000 by decide), fun a3 h3 => ?_⟩
        have s3 := s2.trans (same_upd (o := .lst (List.replicate (2 : Int).toNat [V.ref l]).flatten) h3)
        refine ⟨.list [.list [.str nm, .str z], .list [.str nm, .str z]], .list [.list [.str nm, .str z], .list [.str nm, .str z]], .lst (lst_of (s3 _ _ q9)) (.cons (dW (s3 _ _ hp9)) (.cons (dW (s3 _ _ hp9')) .nil)), .lst (lst_of upd_same) (.cons (dW (s3 _ _ l9)) (.cons (dW (s3 _ _ l9)) .nil)), shp, shp, ?_⟩
        rw [eqv_same shp]
        exact fin _ s3
end K6


set_option Elab.async false
set_option linter.all false
set_option maxRecDepth 100000
set_option maxHeartbeats 4000000
namespace K6
open PySem PySem.Spec PyProof.Rows L2 Rw LamX
variable {P : Program} {w : World} {K : PySem.W.Frag} {mg : Str → Option Value} {base : Heap} {A : Ad} {fd : Fds}
theorem reader_made {H : Hp} {n : Nat} {a e : Addr} {tab : Tab} {ends : List Nat} {Q : Hp → Prop} {E : XK} (da : Dp K H (.ref a) (dTab tab)) (de : Dp K H (.ref e) (dNats ends)) (n1 : 1 ≤ n) (gt : GoodT n tab) (ge : GoodE tab.length ends) (w2 : wt (dTab tab) ≤ 50000)
    {x dx : Addr} (k : ∀ H', Same H H' → H' x = some (.ins A.C dx (flds n a e)) → Q H') (hx : H x = none) (hdx : H dx = none) (hne : dx ≠ x) :
    calm (spInit K A) [.ref x, .int (n : Int), .ref a, .ref e] (upd (upd H dx (.own x)) x (.ins A.C dx [])) (fun v H2 => v = .non ∧ Q H2) E := by
  have sM : Same H (upd (upd H dx (.own x)) x (.ins A.C dx [])) := (same_upd hdx).trans (same_upd (by rw [upd_ne (fun z => hne z.symm)]; exact hx))
  have d3 := due_ok n1 gt ge
  have n2 := gt.n2
  have w3 := (ok_nats (B := 1000) ge (by omega)).2.1
  refine ⟨x, dx, .int (n : Int), .int (n : Int), .ref a, dTab tab, .ref e, dNats ends, rfl, upd_same, .int _, rp_tab (dp_mono sM _ _ da), rp_nats (dp_mono sM _ _ de), w2, by omega, fun z => ?_, fun z => ?_, fun z => ?_, fun z => ?_⟩
  · omega
  · omega
  · omega
  · rintro n' tab' ends' a' e' z1 z2 z3 z4 z5 z6 _ _ _ H' keep ob
    obtain rfl : n = n' := by have := V.int.inj z1; omega
    obtain rfl := V.ref.inj z3
    obtain rfl := V.ref.inj z4
    have s' : Same H H' := fun y o hy => keep y o (sM y o hy) (ne_of_none hy hx)
    exact ⟨rfl, k H' s' ob⟩
theorem ext_dd {b : Addr} {H H' : Hp} (e : ExtN (del b H) H') : ExtN (del b H) (del b H') := fun x o h n => by
  have hx : x ≠ b := by
    intro z
    rw [z, del_none] at h
    cases h
  exact (del_ne hx).trans (e x o h n)
theorem eqR_ends (n : Nat) (tab : Tab) (ends ends' : List Nat) : eqR n n tab tab ends ends' = PyData.eqv (dNats ends) (dNats ends') := by
  unfold eqR
  rw [decide_eq_true rfl, eqv_same (tab_shaped tab), Bool.true_and, Bool.true_and]
theorem eqR_same (n : Nat) (tab : Tab) (ends : List Nat) : eqR n n tab tab ends ends = true := (eqR_ends n tab ends ends).trans (eqv_same (nats_shaped ends))
def spRight (K : PySem.W.Frag) (A : Ad) : Sp := fun vs H Q _ => ∃ b : Addr, vs = [.ref b] ∧ BarAt H b ∧ Tabs (tabsOf A) H ∧ ∀ H', ExtN (del b H) H' → Tabs (tabsOf A) H' → Q (.bl true) H'
theorem ok_l_right (T : Txt K mg A) (U : Funs K A fd) (TBs : ∀ p ∈ codesOf A, TabB base mg p.1 p.2) : FnOkG P w K mg base 56 A.l_right fd.l_right p_l_right (spRight K A) := by
  have b_Reader_eq := U.b_Reader_eq
  have G_Reader_eq := ok_Reader_eq (P := P) (w := w) (base := base) T U
  have b_Reader_init := U.b_Reader_init
  have G_Reader_init := ok_Reader_init (P := P) (w := w) (base := base) T U
  have b_l_ends_for := U.b_l_ends_for
  have G_l_ends_for := ok_l_ends_for (P := P) (w := w) (base := base) T U
  have b_l_one_right := U.b_l_one_right
  have G_l_one_right := ok_l_one_right (P := P) (w := w) (base := base) T U TBs
  have b_l_shows := U.b_l_shows
  have G_l_shows := ok_l_shows (P := P) (w := w) (base := base) T U
  have b_l_arrows_for := U.b_l_arrows_for
  have G_l_arrows_for := ok_l_arrows_for (P := P) (w := w) (base := base) T U
  have b_l_dip := U.b_l_dip
  have G_l_dip := ok_l_dip (P := P) (w := w) (base := base) T U
  have b_l_one_of := U.b_l_one_of
  have G_l_one_of := ok_l_one_of (P := P) (w := w) (base := base) T U
  refine okG U.F_l_right sc_l_right (fun vs H Q E h => ?_) (fun cdv A0 outer s H vs Q E hg hr h => ?_)
  · obtain ⟨b, rfl, _⟩ := h
    rfl
  · have hu := hu_of hr
    obtain ⟨b, rfl, B, tT, k⟩ := h
    refine ⟨_, (pss_cons (ps_for PassesOwn.never rfl (pi_range1 (by rfl) T.b_range (pa_cons pe_int pa_nil)) (pg_name (i := 1) sc_l_right.nd rfl (Or.inl rfl))
       (pss_cons (ps_par (i := 2) (j := 3) (by rfl) sc_l_right.nd rfl rfl (by decide) rfl rfl (pa_cons (pe_call G_l_one_of (hr.mono (by decide)) (by rfl) T.m_l_one_of T.k_l_one_of b_l_one_of .nil pass0 (pa_cons (pv 0) (pa_cons (pe_lst (pa_cons pe_int (pa_cons pe_int (pa_cons pe_int (pa_cons pe_int (pa_cons pe_int pa_nil)))))) pa_nil))) (pa_cons (pe_op op_add pe_int (pe_call G_l_dip (hr.mono (by decide)) (by rfl) T.m_l_dip T.k_l_dip b_l_dip .nil pass0 (pa_cons (pv 0) (pa_cons pe_int pa_nil)))) pa_nil)) (by rfl))
       (pss_cons (ps_par (i := 4) (j := 5) (by rfl) sc_l_right.nd rfl rfl (by decide) rfl rfl (pa_cons (pe_call G_l_arrows_for (hr.mono (by decide)) (by rfl) T.m_l_arrows_for T.k_l_arrows_for b_l_arrows_for .nil pass0 (pa_cons (pv 0) (pa_cons (pv 2) (pa_cons (pv 3) pa_nil)))) (pa_cons (pe_call G_l_ends_for (hr.mono (by decide)) (by rfl) T.m_l_ends_for T.k_l_ends_for b_l_ends_for .nil pass0 (pa_cons (pv 0) (pa_cons (pv 3) pa_nil))) pa_nil)) (by rfl))
       (pss_cons (ps_set (i := 6) sc_l_right.nd rfl (Or.inl rfl) (pe_make T.mk_Reader G_Reader_init (hr.mono (by decide)) (by rfl) T.m_Reader b_Reader_init .nil pass0 (pa_cons (pv 2) (pa_cons (pv 4) (pa_cons (pv 5) pa_nil)))))
       (pss_cons (ps_if (PW.pt (pw_or (pt_not (pt_val (pe_callG G_l_shows hg (hr.mono (by decide)) (by rfl) T.m_l_shows T.k_l_shows b_l_shows (pa_cons (pv 6) (pa_cons (pv 2) (pa_cons (pv 4) (pa_cons (pv 5) pa_nil))))))) (pw_or1 (pt_not (pt_val (pe_callG G_l_one_right hg (hr.mono (by decide)) (by rfl) T.m_l_one_right T.k_l_one_right b_l_one_right (pa_cons (pv 0) (pa_cons (pv 2) (pa_cons (pv 4) (pa_cons (pv 5) pa_nil)))))))))) (pss_one (ps_ret pe_bl)) pss_nil)
       (pss_cons (ps_par (i := 7) (j := 8) (by rfl) sc_l_right.nd rfl rfl (by decide) rfl rfl (pa_cons (pe_make T.mk_Reader G_Reader_init (hr.mono (by decide)) (by rfl) T.m_Reader b_Reader_init .nil pass0 (pa_cons (pv 2) (pa_cons (pe_callTy (w_tuple (K := K)) (by rfl) T.b_tuple (by decide +kernel) (pa_cons (pe_callTy (w_list (K := K)) (by rfl) T.b_list (by decide +kernel) (pa_cons (pv 4) pa_nil)) pa_nil)) (pa_cons (pv 5) pa_nil)))) (pa_cons (pe_call G_l_ends_for (hr.mono (by decide)) (by rfl) T.m_l_ends_for T.k_l_ends_for b_l_ends_for .nil pass0 (pa_cons (pv 0) (pa_cons (pv 3) pa_nil))) pa_nil)) (by rfl))
       (pss_cons (ps_if (PW.pt (pw_or (pt_not (pt_cmpR (op_eqO G_Reader_eq (hr.mono (by decide)) T.own_eq T.isf_eq b_Reader_eq pass0) (pv 6) (pv 7) (nomark _))) (pw_or (pt_cmpR (op_neO G_Reader_eq (hr.mono (by decide)) T.own_eq T.isf_eq T.own_ne T.t_mo b_Reader_eq pass0) (pv 6) (pv 7) (nomark _)) (pw_or (pt_cmpR (op_eqO G_Reader_eq (hr.mono (by decide)) T.own_eq T.isf_eq b_Reader_eq pass0) (pv 6) (pe_tup (pa_cons (pv 2) (pa_cons (pv 4) (pa_cons (pv 5) pa_nil)))) (nomark _)) (pw_or1 (pt_not (pt_cmpR (op_neO G_Reader_eq (hr.mono (by decide)) T.own_eq T.isf_eq T.own_ne T.t_mo b_Reader_eq pass0) (pv 6) (pv 4) (nomark _)))))))) (pss_one (ps_ret pe_bl)) pss_nil)
       (pss_one (ps_if (pt_cmpR op_ne (pe_cmpR (op_eqO G_Reader_eq (hr.mono (by decide)) T.own_eq T.isf_eq b_Reader_eq pass0) (pv 6) (pe_make T.mk_Reader G_Reader_init (hr.mono (by decide)) (by rfl) T.m_Reader b_Reader_init .nil pass0 (pa_cons (pv 2) (pa_cons (pv 4) (pa_cons (pv 8) pa_nil)))) (nomark _)) (pe_cmpR (w_eqD (K := K) hr.units) (pv 5) (pv 8) (nomark _)) (nomark _)) (pss_one (ps_ret pe_bl)) pss_nil)))))))))
       (pss_one (ps_ret pe_bl))), ?_⟩
    refine ⟨4, rfl, by decide, by decide, ?_⟩
    refine for_range (lo := 0) (n := 4) (fun i σ H' => ∃ y1 y2 y3 y4 y5 y6 y7 y8, σ = [some (.ref b), y1, y2, y3, y4, y5, y6, y7, y8] ∧ ExtN (del b H) H' ∧ BarAt H' b ∧ Tabs (tabsOf A) H') ?_ ?_ ?_
    · exact ⟨_, _, _, _, _, _, _, _, rfl, ext_del (ExtN.refl _), B, tT⟩
    · rintro i σ H0 hi ⟨y1, y2, y3, y4, y5, y6, y7, y8, rfl, k0, B0, T0⟩
      refine ⟨_, rfl, by show 5 ≤ sizeLine; decide, fun m hm => ?_⟩
      have nem : m ≠ b := bar_ne B0 hm
      have Bm := bar_upd (o := .lst [.int 1, .int 2, .int 2, .int 3, .int 8]) B0 nem
      refine ⟨b, m, [.int 1, .int 2, .int 2, .int 3, .int 8], rfl, Bm, lst_of (by rw [del_ne nem]; exact upd_same), by show 0 < 5; decide, by show 5 ≤ 1000; decide, fun x H1 hx kp1 B1 => ?_⟩
      obtain ⟨n, n1, n8, rfl⟩ : ∃ n : Nat, 1 ≤ n ∧ n ≤ 8 ∧ x = .int (n : Int) := by
        simp at hx
        rcases hx with rfl | rfl | rfl | rfl
        · exact ⟨1, by decide, by decide, rfl⟩
        · exact ⟨2, by decide, by decide, rfl⟩
        · exact ⟨3, by decide, by decide, rfl⟩
        · exact ⟨8, by decide, by decide, rfl⟩
      have k1 : Keep b H0 H1 := (Keep.of (same_upd hm)).trans kp1
      refine ⟨_, rfl, b, 5, rfl, B1, by decide, by decide, fun r H2 hr2 kp2 B2 => ?_⟩
      refine ⟨_, _, rfl, rfl, _, _, rfl, ?_⟩
      obtain ⟨st, hst1, hst5, est⟩ : ∃ st : Nat, 1 ≤ st ∧ st ≤ 5 ∧ (1 : Int) + (r : Int) = (st : Int) := ⟨1 + r, by omega, by omega, by omega⟩
      refine ⟨_, rfl, _, rfl, _, rfl, b, n, st, by rw [← est] <;> rfl, B2, by omega, by omega, by omega, fun a tab H3 kp3 B3 da gt hlen => ?_⟩
      refine ⟨_, rfl, _, rfl, b, st, by rw [← est] <;> rfl, B3, by omega, by omega, fun e ends H4 kp4 B4 de ge => ?_⟩
      refine ⟨_, _, rfl, ?_⟩
      rw [← hlen] at ge
      have k4 : Keep b H0 H4 := k1.trans (kp2.trans (kp3.trans kp4))
      have da4d := dp_mono kp4 _ _ da
      have da4 := dp_mono (del_same b) _ _ da4d
      have de4 := dp_mono (del_same b) _ _ de
      obtain ⟨ot, wtab, dt⟩ := ok_tab (B := okBig) gt (by decide +kernel)
      obtain ⟨oe, wends, dee⟩ := ok_nats (B := okBig) ge (by rw [hlen]; exact Nat.le_trans hst5 (by decide +kernel))
      refine ⟨_, rfl, _, rfl, _, rfl, fun p dx hp hdx hne => ?_⟩
      refine reader_made (A := A) da4 de4 n1 gt ge (by omega) (fun H6 s6 ob6 => ?_) hp hdx hne
      have nap : ∀ {H' : Hp} {x C' dx' : Addr} {fs : List (Str × V)}, BarAt H' b → H' x = some (.ins C' dx' fs) → x ≠ b := fun B h z => by
        obtain ⟨f, s, c, hb, _⟩ := B.ob
        rw [z, hb] at h
        cases h
      have B6 := bar_same B4 s6
      have T6 := (tabs_keep B0 k4 T0).ext s6
      have da6d := dp_mono (Keep.of (b := b) s6) _ _ da4d
      have de6d := dp_mono (Keep.of (b := b) s6) _ _ de
      have da6 := dp_mono (del_same b) _ _ da6d
      have de6 := dp_mono (del_same b) _ _ de6d
      have R6 : RdAt K A.C H6 p n tab ends := ⟨dx, a, e, ob6, da6, de6⟩
      refine ⟨_, rfl, _, rfl, _, rfl, _, rfl, p, a, e, n, tab, ends, rfl, R6, gt, ge, da6, de6, by omega, fun H7 s7 => ⟨_, rfl, ?_⟩⟩
      refine ifF rfl ?_
      have B7 := bar_same B6 s7
      have T7 := T6.ext s7
      have da7d := dp_mono (Keep.of (b := b) s7) _ _ da6d
      have de7d := dp_mono (Keep.of (b := b) s7) _ _ de6d
      have ob7 := s7 _ _ ob6
      refine ⟨_, rfl, _, rfl, _, rfl, _, rfl, b, .int (n : Int), .ref a, .ref e, .int (n : Int), dTab tab, dNats ends, rfl, B7, T7, .int _, rp_tab da7d, rp_nats de7d, ⟨?_, ?_, ?_⟩, ⟨ot, by omega, dt⟩, ⟨oe, by omega, by omega⟩, fun H8 e8 B8 T8 => ⟨_, rfl, ?_⟩⟩
      · simp only [okD]
        exact decide_eq_true (Nat.le_trans (show (n : Int).natAbs ≤ 8 by omega) (by decide +kernel))
      · simp only [wt]
        omega
      · simp only [PyData.depth]
        omega
      refine ifF rfl (g_next ?_)
      have ext8 : ExtN (del b H) H8 := ext_join (ext_join k0 (keep_ext (k4.trans (Keep.of (s6.trans s7))))) e8
      have ob8 : H8 p = some (.ins A.C dx (flds n a e)) := e8 _ _ ((del_ne (nap B7 ob7)).trans ob7) fun ps z => by cases z
      have da8 := Rp.dp _ (Rp.extN e8 (rp_tab da7d)) (noDict_tab _)
      have de8 := Rp.dp _ (Rp.extN e8 (rp_nats de7d)) (noDict_nats _)
      have da8d := Rp.dp _ (Rp.extN (ext_dd e8) (rp_tab da7d)) (noDict_tab _)
      have de8d := Rp.dp _ (Rp.extN (ext_dd e8) (rp_nats de7d)) (noDict_nats _)
      obtain ⟨a', xs, z1, hx8d, hds8d⟩ := dp_tup da8d
      obtain rfl := V.ref.inj z1
      have hx8 := sqT_mono (del_same b) hx8d
      dsimp only
      refine g_seq ?_
      refine ⟨_, rfl, _, rfl, a, xs, rfl, .inr hx8, fun l hl => ⟨l, xs, rfl, .inl ⟨lst_of upd_same, fun t ht => ⟨_, rfl, fun p2 dx2 hp2 hdx2 hne2 => ?_⟩⟩⟩⟩
      have sl := same_upd (o := .lst xs) hl
      have st' := same_upd (o := .tup xs) ht
      have s9 := sl.trans st'
      have nt : t ≠ b := bar_ne (bar_same B8 sl) ht
      have dt9d : Dp K (del b (upd (upd H8 l (.lst xs)) t (.tup xs))) (.ref t) (dTab tab) := .tup (tup_of ((del_ne nt).trans upd_same)) (dps_mono (Keep.of (b := b) s9) _ _ hds8d)
      have dt9 := dp_mono (del_same b) _ _ dt9d
      refine reader_made (A := A) dt9 (dp_mono s9 _ _ de8) n1 gt ge (by omega) (fun H10 s10 ob10 => ?_) hp2 hdx2 hne2
      have B10 := bar_same B8 (s9.trans s10)
      refine ⟨_, rfl, _, rfl, b, st, by rw [← est] <;> rfl, B10, by omega, by omega, fun e2 ends2 H11 kp11 B11 de2d ge2 => ?_⟩
      refine ⟨_, _, rfl, ?_⟩
      rw [← hlen] at ge2
      have k811 : Keep b H8 H11 := (Keep.of (s9.trans s10)).trans kp11
      have ext11 := ext_join ext8 (keep_ext k811)
      have T11 := tabs_keep B8 k811 T8
      have ob11 := k811.get (nap B8 ob8) ob8
      have ob211 := kp11.get (nap B10 ob10) ob10
      have da11 := dp_mono (del_same b) _ _ (dp_mono k811 _ _ da8d)
      have de11 := dp_mono (del_same b) _ _ (dp_mono k811 _ _ de8d)
      have dt11 := dp_mono (del_same b) _ _ (dp_mono ((Keep.of (b := b) s10).trans kp11) _ _ dt9d)
      have de2 := dp_mono (del_same b) _ _ de2d
      have hx11 := sqT_mono (del_same b) (sqT_mono k811 hx8d)
      have R11 : RdAt K A.C H11 p n tab ends := ⟨dx, a, e, ob11, da11, de11⟩
      have R211 : RdAt K A.C H11 p2 n tab ends := ⟨dx2, t, e, ob211, dt11, de11⟩
      dsimp only
      refine g_seq ?_
      refine ⟨_, rfl, _, rfl, p, dx, _, rfl, ob11, beside_of T R211, p, n, tab, ends, .ref p2, rfl, R11, .inl ⟨p2, n, tab, ends, rfl, R211, _, rfl, _, rfl, ?_⟩⟩
      rw [eqR_same]
      refine ifF rfl ?_
      refine ⟨_, rfl, _, rfl, p, dx, _, rfl, ob11, beside_of T R211, p, n, tab, ends, .ref p2, rfl, R11, .inl ⟨p2, n, tab, ends, rfl, R211, _, rfl, _, rfl, ?_⟩⟩
      rw [eqR_same]
      refine ifF rfl ?_
      refine ⟨_, rfl, _, rfl, _, rfl, _, rfl, by show 3 ≤ sizeLine; decide, fun t3 ht3 => ?_⟩
      have s12 := same_upd (o := .tup [.int (n : Int), .ref a, .ref e]) ht3
      have R12 := R11.mono s12
      refine ⟨p, dx, _, rfl, s12 _ _ ob11, .inr ⟨t3, _, rfl, tup_of upd_same, T.nf_tuple⟩, p, n, tab, ends, .ref t3, rfl, R12, .inr ⟨t3, _, rfl, tup_of upd_same, _, rfl, _, rfl, ?_⟩⟩
      refine ifF rfl ?_
      refine ⟨_, rfl, _, rfl, p, dx, _, rfl, s12 _ _ ob11, .inr ⟨a, xs, rfl, sqT_mono s12 hx11, T.nf_tuple⟩, p, n, tab, ends, .ref a, rfl, R12, .inr ⟨a, xs, rfl, sqT_mono s12 hx11, _, rfl, _, rfl, ?_⟩⟩
      refine ifF rfl (g_next ?_)
      dsimp only
      refine ⟨_, rfl, _, rfl, _, rfl, _, rfl, fun p3 dx3 hp3 hdx3 hne3 => ?_⟩
      refine reader_made (A := A) (dp_mono s12 _ _ da11) (dp_mono s12 _ _ de2) n1 gt ge2 (by omega) (fun H13 s13 ob13 => ?_) hp3 hdx3 hne3
      have s1113 := s12.trans s13
      have R3 : RdAt K A.C H13 p3 n tab ends2 := ⟨dx3, a, e2, ob13, dp_mono s1113 _ _ da11, dp_mono s1113 _ _ de2⟩
      refine ⟨p, dx, _, rfl, s1113 _ _ ob11, beside_of T R3, p, n, tab, ends, .ref p3, rfl, R11.mono s1113, .inl ⟨p3, n, tab, ends2, rfl, R3, _, rfl, ?_⟩⟩
      refine ⟨_, rfl, _, rfl, dNats ends, dNats ends2, dp_mono s1113 _ _ de11, dp_mono s1113 _ _ de2, nats_shaped _, nats_shaped _, rfl, _, rfl, ?_⟩
      rw [eqR_ends, if_neg Bool.false_ne_true, decide_eq_true rfl]
      refine ifF rfl (g_next ?_)
      exact ⟨_, _, _, _, _, _, _, _, rfl, ext_join ext11 (ext_del (ExtN.of s1113)), bar_same B11 s1113, T11.ext s1113⟩
    · rintro σ H0 ⟨y1, y2, y3, y4, y5, y6, y7, y8, rfl, k0, B0, T0⟩
      exact k H0 k0 T0
end K6


set_option Elab.async false
set_option linter.all false
set_option maxRecDepth 100000
set_option maxHeartbeats 4000000
namespace K6
open PySem PySem.Spec PyProof.Rows L2 Rw LamX
variable {P : Program} {w : World} {K : PySem.W.Frag} {mg : Str → Option Value} {base : Heap} {A : Ad} {fd : Fds}
theorem sqL_ext {H H' : Hp} (e : ExtN H H') {a : Addr} {xs : List V} (h : SqL K H a xs) : SqL K H' a xs := by
  rcases h with (h | ⟨o, h⟩) | h
  · exact .inl (.inl (e _ _ h fun ps z => by cases z))
  · exact .inl (.inr ⟨o, e _ _ h fun ps z => by cases z⟩)
  · exact .inr h
def bigT (m : Nat) : Tab := List.replicate m [none]
theorem bigT_good : GoodT 1 (bigT 200) where
  w8 := by decide
  n1 := by decide +kernel
  n2 := by decide +kernel
  rows := fun row h => by
    rw [List.eq_of_mem_replicate h]
    exact ⟨rfl, fun g hg => by cases List.mem_singleton.mp hg⟩
theorem bigT_len (m : Nat) : (bigT m).length = m := List.length_replicate
theorem big_ends : GoodE 200 [0, 199] where
  asc := asc_iff.mp (by decide +kernel)
  lt := fun g h => by
    simp only [List.mem_cons, List.not_mem_nil, or_false] at h
    omega
theorem big_due : dueD (.int 1) (dTab (bigT 201)) (dNats []) = 1 := by decide +kernel
theorem rep_dps {H : Hp} {x : V} {d : PyData} (h : Dp K H x d) : ∀ m, DpAll K H (List.replicate m [x]).flatten (List.replicate m d)
  | 0 => .nil
  | m + 1 => by
    rw [List.replicate_succ, List.flatten_cons, List.replicate_succ]
    exact .cons h (rep_dps h m)
def spLaw (K : PySem.W.Frag) (A : Ad) : Sp := fun vs H Q _ => ∃ (a : Addr) (ns : List Int), vs = [.ref a] ∧ SqL K H a (ns.map V.int) ∧ ns.length ≤ 63 ∧ Tabs (tabsOf A) H ∧ ∀ H', Q (.bl true) H'
theorem ok_law (T : Txt K mg A) (U : Funs K A fd) (TBs : ∀ p ∈ codesOf A, TabB base mg p.1 p.2) : FnOkG P w K mg base 59 A.law fd.law p_law (spLaw K A) := by
  have b_l_right := U.b_l_right
  have G_l_right := ok_l_right (P := P) (w := w) (base := base) T U TBs
  have b_l_barrel := U.b_l_barrel
  have G_l_barrel := ok_l_barrel (P := P) (w := w) (base := base) T U
  have b_Reader_init := U.b_Reader_init
  have G_Reader_init := ok_Reader_init (P := P) (w := w) (base := base) T U
  have GX_Reader_init := okX_Reader_init (P := P) (w := w) (base := base) T U
  have b_Reader_len := U.b_Reader_len
  have G_Reader_len := ok_Reader_len (P := P) (w := w) (base := base) T U
  have TB : TabB base mg A.c_law A.t_law := TBs (A.c_law, A.t_law) (by simp [codesOf])
  have hmT : (A.t_law, (("law" : Str) ++ ".<locals>.") ++ "<lambda>") ∈ tabsOf A := by simp [tabsOf]
  have hun : ∀ p ∈ tabsOf A, p.1 = A.t_law → p.2 = (("law" : Str) ++ ".<locals>.") ++ "<lambda>" := by
    intro p hp e
    simp only [tabsOf, List.mem_cons, List.not_mem_nil, or_false] at hp
    rcases hp with rfl | rfl
    · exact absurd e T.ne_l_one_right_law
    · rfl
  refine okGC U.F_law sc_law (fun vs H Q E h => ?_) (fun A0 outer s H vs Q E hg hr h => ?_)
  · obtain ⟨a, ns, rfl, _⟩ := h
    rfl
  · have hu := hu_of hr
    obtain ⟨a, ns, rfl, hS, hn, tT, k⟩ := h
    refine ⟨_, (pss_cons (ps_set (i := 1) sc_law.nd rfl (Or.inl rfl) (pe_make T.mk_Reader G_Reader_init (hr.mono (by decide)) (by rfl) T.m_Reader b_Reader_init .nil pass0 (pa_cons pe_int (pa_cons (pe_op (op_repTO (K := K)) (pe_tup (pa_cons (pe_tup (pa_cons pe_non pa_nil)) pa_nil)) pe_int) (pa_cons (pe_tup (pa_cons pe_int (pa_cons pe_int pa_nil))) pa_nil)))))
       (pss_cons (ps_if (PW.pt (pw_or (pt_cmpR op_ne (pe_callB (call_lenO G_Reader_len (hr.mono (by decide)) T.own_len T.isf_len b_Reader_len pass0) (by rfl) T.b_len PySem.boot_len (pa_cons (pv 1) pa_nil)) pe_int (nomark _)) (pw_or1 (pt_cmpR op_ne (pe_ix (w_ixL (K := K)) (pe_came (KK := 20) T U TB rfl hmT hun hg (hr.mono (by decide)) (by decide) (lamS_by (by rfl)) rfl (fun _ _ _ _ _ => rfl) (fun A2 o2 s2 H2 E2 f2 c2 hr2 => (pe_make T.mk_Reader GX_Reader_init (hr2.mono (by decide)) (by rfl) T.m_Reader b_Reader_init .nil (passX (E := E2) rfl rfl rfl rfl) (pa_cons pe_int (pa_cons (pe_op (op_repTO (K := K)) (pe_tup (pa_cons (pe_tup (pa_cons pe_non pa_nil)) pa_nil)) pe_int) (pa_cons (pe_tup pa_nil) pa_nil)))))) pe_int (fun _ _ => rfl)) pe_str (nomark _))))) (pss_one (ps_ret pe_bl)) pss_nil)
       (pss_one (ps_ret (pe_callB (w_all (K := K) rfl) (by rfl) T.b_all (by decide +kernel) (pa_cons (pe_lc (own := [("_law_turn", 2)]) (g := gName 2) (tt := tYes) (by rfl) sc_law.nd (pi_range1 (by rfl) T.b_range (pa_cons (pe_callB (call_max2 rfl) (by rfl) T.b_max (by decide +kernel) (pa_cons pe_int (pa_cons (pe_callB (call_min2 rfl) (by rfl) T.b_min (by decide +kernel) (pa_cons (pe_callB (w_len (K := K)) (by rfl) T.b_len (by decide +kernel) (pa_cons (pv 0) pa_nil)) (pa_cons pe_int pa_nil))) pa_nil))) pa_nil)) (blkOk_by (own := [("_law_turn", 2)]) (by rfl)) (fun _ _ _ _ _ => (pg_name (i := 2) sc_law.nd rfl (Or.inl rfl))) (fun _ _ _ _ _ => pts_nil) (fun _ _ _ _ _ => (pe_callG G_l_right hg (hr.mono (by decide)) (by rfl) T.m_l_right T.k_l_right b_l_right (pa_cons (pe_call G_l_barrel (hr.mono (by decide)) (by rfl) T.m_l_barrel T.k_l_barrel b_l_barrel .nil pass0 (pa_cons (pv 0) (pa_cons (pv 2) pa_nil))) pa_nil)))) pa_nil)))))), ?_⟩
    refine ⟨by show 1 ≤ sizeLine; decide, fun a1 h1 => ⟨by show 1 ≤ sizeLine; decide, fun a2 h2 => ?_⟩⟩
    refine ⟨a2, 200, [.ref a1], rfl, rfl, tup_of upd_same, by simp, by decide, by decide, by show 1 ≤ 1000; decide, fun l3 H3 s3 hl3 => ?_⟩
    refine ⟨by show 2 ≤ sizeLine; decide, fun e4 he4 p dx hp hdx hne => ?_⟩
    have s4 := same_upd (o := .tup [.int 0, .int 199]) he4
    have s14 := (same_upd (o := .tup [.non]) h1).trans ((same_upd (o := .tup [.ref a1]) h2).trans (s3.trans s4))
    have dB : Dp K (upd H3 e4 (.tup [.int 0, .int 199])) (.ref l3) (dTab (bigT 200)) := by
      refine .tup (sqT_mono s4 hl3) ?_
      have z := rep_dps (K := K) (H := upd H3 e4 (.tup [.int 0, .int 199])) (x := .ref a1) (d := dRow [none]) (.tup (sqT_mono ((same_upd h2).trans (s3.trans s4)) (tup_of upd_same)) (.cons .non .nil)) 200
      unfold bigT
      rw [List.map_replicate]
      exact z
    have dE : Dp K (upd H3 e4 (.tup [.int 0, .int 199])) (.ref e4) (dNats [0, 199]) := .tup (tup_of upd_same) (.cons (.int _) (.cons (.int _) .nil))
    have gE : GoodE (bigT 200).length [0, 199] := by rw [bigT_len]; exact big_ends
    refine reader_made (A := A) (n := 1) dB dE (by decide) bigT_good gE (by decide +kernel) (fun H5 s5 ob5 => ?_) hp hdx hne
    have R5 : RdAt K A.C H5 p 1 (bigT 200) [0, 199] := ⟨dx, l3, e4, ob5, dp_mono s5 _ _ dB, dp_mono s5 _ _ dE⟩
    dsimp only
    refine g_seq ?_
    refine ⟨_, rfl, p, dx, _, rfl, ob5, p, 1, bigT 200, [0, 199], rfl, R5, 200, by show V.int (((bigT 200).length : Nat) : Int) = _; rw [bigT_len], by decide, rfl, _, rfl, ?_⟩
    refine ifF rfl ?_
    have t5 := tT.ext (s14.trans s5)
    refine ⟨t5, fun H6 e6 t6 => ?_⟩
    refine ⟨by show 1 ≤ sizeLine; decide, fun b1 g1 => ⟨by show 1 ≤ sizeLine; decide, fun b2 g2 => ?_⟩⟩
    refine ⟨b2, 201, [.ref b1], rfl, rfl, tup_of upd_same, by simp, by decide, by decide, by show 1 ≤ 1000; decide, fun l7 H7 s7 hl7 => ?_⟩
    refine ⟨Nat.zero_le _, fun e8 he8 x dx hx hdx hne => ?_⟩
    have s8 := same_upd (o := .tup []) he8
    have s68 := (same_upd (o := .tup [.non]) g1).trans ((same_upd (o := .tup [.ref b1]) g2).trans (s7.trans s8))
    have dC : Dp K (upd H7 e8 (.tup [])) (.ref l7) (dTab (bigT 201)) := by
      refine .tup (sqT_mono s8 hl7) ?_
      have z := rep_dps (K := K) (H := upd H7 e8 (.tup [])) (x := .ref b1) (d := dRow [none]) (.tup (sqT_mono ((same_upd g2).trans (s7.trans s8)) (tup_of upd_same)) (.cons .non .nil)) 201
      unfold bigT
      rw [List.map_replicate]
      exact z
    have dN : Dp K (upd H7 e8 (.tup [])) (.ref e8) (dNats []) := .tup (tup_of upd_same) .nil
    refine reader_came T (v1 := .int 1) (d1 := .int 1) (.int 1) (rp_tab dC) (rp_nats dN) (show_of (B := 1000) (by decide +kernel) (by decide +kernel) (by decide +kernel) (by decide +kernel)) (show_of (B := 1000) (by decide +kernel) (by decide +kernel) (by decide +kernel) (by decide +kernel)) (show_of (B := 1000) (by decide +kernel) (by decide +kernel) (by decide +kernel) (by decide +kernel)) (by decide +kernel) (by decide +kernel) (fun q H9 hq s9 came => ?_) hx hdx hne
    have q9 : H9 q = some (.lst [.str "InvalidArrows", .str (dTab (bigT 201)).shown]) := by
      rcases came with ⟨n', tab', ends', r', dx', a', e', n1, gt, ge, z1, z2, z3, _⟩ | ⟨_, h⟩
      · have := due_ok n1 gt ge
        rw [← z1, ← z2, ← z3, big_due] at this
        cases this
      · rw [h]
        unfold dueV
        rw [big_due]
        rfl
    refine ⟨q, _, 0, .str "InvalidArrows", rfl, rfl, lst_of q9, rfl, rfl, _, rfl, ?_⟩
    refine ifF (by simp) (g_next ?_)
    have s69 := s68.trans s9
    have tH := t6.ext s69
    have hS2 := sqL_ext (((ExtN.of (s14.trans s5)).trans e6).trans (ExtN.of s69)) hS
    clear came q9
    dsimp only
    refine ⟨_, rfl, _, _, rfl, .inl ⟨_, hS2, rfl⟩, _, _, rfl, _, _, rfl, ?_⟩
    obtain ⟨m, hm, em⟩ : ∃ m : Nat, m ≤ 3 ∧ (if (if (3 : Int) < ((ns.map V.int).length : Int) then (3 : Int) else ((ns.map V.int).length : Int)) > 2 then (if (3 : Int) < ((ns.map V.int).length : Int) then (3 : Int) else ((ns.map V.int).length : Int)) else 2) = (m : Int) := by
      by_cases c : (3 : Int) < ((ns.map V.int).length : Int)
      · exact ⟨3, by decide, by rw [if_pos c]; rfl⟩
      · rw [if_neg c]
        by_cases c2 : ((ns.map V.int).length : Int) > 2
        · exact ⟨(ns.map V.int).length, by omega, if_pos c2⟩
        · exact ⟨2, by decide, if_neg c2⟩
    refine ⟨(m : Int), by rw [← em] <;> rfl, by omega, by omega, fun D3 hD3 => ?_⟩
    rw [Int.toNat_natCast]
    refine lc_range (lo := 0) (n := m) (fun i H' => SqL K (del D3 H') a (ns.map V.int) ∧ Tabs (tabsOf A) H' ∧ H' D3 = some (.lst (List.replicate i (.bl true)))) ?_ ?_ ?_
    · exact ⟨sqL_mono (fun x o hx => (del_ne (ne_of_none hx hD3)).trans ((upd_ne (ne_of_none hx hD3)).trans hx)) hS2, tH.ext (same_upd hD3), upd_same⟩
    · rintro i H1 hi ⟨h1, t1, hD1⟩
      refine ⟨rfl, yes_go ?_⟩
      rw [show (0 : Int) + (i : Int) = (i : Int) by omega]
      refine ⟨_, rfl, _, rfl, a, ns, i, rfl, sqL_mono (del_same D3) h1, hn, by omega, fun b H2 hb s2 B2 => ?_⟩
      refine ⟨b, rfl, B2, t1.ext s2, fun H3 e3 t3 => ?_⟩
      have sD : Same H1 (del b H2) := fun x o hx => (del_ne (ne_of_none hx hb)).trans (s2 _ _ hx)
      have x13 : ExtN H1 H3 := (ExtN.of sD).trans e3
      have hD3' := x13 _ _ hD1 fun ps z => by cases z
      refine ⟨_, hD3', szt (by rw [List.length_replicate]; omega), ?_, tabs_put hD3' t3, ?_⟩
      · refine sqL_ext (fun x o hx n => ?_) h1
        have hx3 : x ≠ D3 := by
          intro z
          rw [z, del_none] at hx
          cases hx
        rw [del_ne hx3, upd_ne hx3]
        exact x13 x o ((del_ne hx3).symm.trans hx) n
      · rw [upd_same, List.replicate_succ']
    · rintro H1 ⟨h1, t1, hD1⟩
      refine ⟨D3, List.replicate m true, rfl, lst_of (by rw [← bls]; exact hD1), ?_⟩
      rw [all_true]
      exact k H1
end K6


set_option Elab.async false
set_option linter.all false
set_option maxRecDepth 100000
set_option maxHeartbeats 4000000
namespace K6
open PySem PySem.Spec PyProof.Rows L2 Rw LamX
/-! ### what the top has written -/
theorem FnOkG.weak {P : Program} {w : World} {K : PySem.W.Frag} {mg : Str → Option Value} {base : Heap} {k : Nat} {f : Addr} {fd : FuncData} {ps : List Str} {sp sp' : Sp} (h : FnOkG P w K mg base k f fd ps sp) (i : ∀ vs H Q E, sp' vs H Q E → sp vs H Q E) : FnOkG P w K mg base k f fd ps sp' :=
  ⟨fun vs H Q E x => h.len vs H Q E (i vs H Q E x), fun A outer s H args us vs Q E g r e0 hb rv q => h.run A outer s H args us vs Q E g r e0 hb rv (i vs H Q E q)⟩
def spLawC (K : PySem.W.Frag) (cs : List (Addr × Addr)) : Sp := fun vs H Q _ => ∃ (a : Addr) (ns : List Int), vs = [.ref a] ∧ SqL K H a (ns.map V.int) ∧ ns.length ≤ 63 ∧ (∀ p ∈ cs, H p.2 = some (.tbl #[])) ∧ ∀ H', Q (.bl true) H'
theorem law_of {K : PySem.W.Frag} {A : Ad} : ∀ vs H Q E, spLawC K (codesOf A) vs H Q E → spLaw K A vs H Q E := by
  rintro vs H Q E ⟨a, ns, rfl, h1, h2, h3, h4⟩
  refine ⟨a, ns, rfl, h1, h2, fun p hp => ?_, h4⟩
  refine TabS.nil ?_
  simp only [tabsOf, List.mem_cons, List.not_mem_nil, or_false] at hp
  rcases hp with rfl | rfl
  · exact h3 (A.c_l_one_right, A.t_l_one_right) (by simp [codesOf])
  · exact h3 (A.c_law, A.t_law) (by simp [codesOf])
theorem wrap_up {P : Program} {w : World} {K : PySem.W.Frag} {h : Heap} {mg : Str → Option Value} {fa : Addr} {k : Nat} (KX : K.In h)
    (z : ∃ (cs : List (Addr × Addr)) (fd : FuncData), (∀ p ∈ cs, h.get? p.2 = some { cls := .none, data := .fields #[] }) ∧ (∀ p ∈ cs, K.lookup p.2 = none) ∧ (∀ p ∈ cs, PySem.W.CodeHd h p.1 p.2) ∧ (∀ (s : Shared) (u : Value), BindsTo s fd ⟨[u], []⟩ [("_law_script", u)]) ∧
      ∀ base : Heap, K.In base → base.Ns mainGlobals mg → (∀ p ∈ cs, TabB base mg p.1 p.2) → FnOkG P w K mg base k fa fd ["_law_script"] (spLawC K cs)) :
    ∃ (K : PySem.W.Frag) (cs : List (Addr × Addr)) (fd : FuncData), K.In h ∧ (∀ p ∈ cs, h.get? p.2 = some { cls := .none, data := .fields #[] }) ∧ (∀ p ∈ cs, K.lookup p.2 = none) ∧ (∀ p ∈ cs, PySem.W.CodeHd h p.1 p.2) ∧
        (∀ (s : Shared) (u : Value), BindsTo s fd ⟨[u], []⟩ [("_law_script", u)]) ∧ (∀ (H : Hp) (a : Addr) (ns : List Int), ns.length ≤ 63 → (∀ p ∈ cs, H p.2 = some (.tbl #[])) → SqL K H a (ns.map V.int) → spLawC K cs [.ref a] H (fun v _ => v = .bl true) fun _ _ _ => False) ∧
        ∀ base : Heap, K.In base → base.Ns mainGlobals mg → (∀ p ∈ cs, TabB base mg p.1 p.2) → FnOkG P w K mg base k fa fd ["_law_script"] (spLawC K cs) := by
  obtain ⟨cs, fd, h1, h2, h3, h4, h5⟩ := z
  exact ⟨K, cs, fd, KX, h1, h2, h3, h4, fun H a ns hl ht hS => ⟨a, ns, rfl, hS, hl, ht, fun _ => rfl⟩, h5⟩
theorem all_mk {P : Program} {w : World} {K : PySem.W.Frag} {h : Heap} {mg : Str → Option Value} {fa C cc_l_one_right cc_law e_InvalidArrows e_InvalidEnds e_InvalidSigns e_NoAnswer e_WrongValue g_Reader_arrows g_Reader_ends g_Reader_eq g_Reader_init g_Reader_len g_Reader_repr g_Reader_signs g_check_signs g_is_arrows g_is_ascending g_is_between g_is_goals g_is_integer g_is_stands g_l_any g_l_are_ends g_l_arrows_for g_l_barrel g_l_came g_l_dip g_l_due g_l_ends_for g_l_is_count g_l_is_table g_l_one_of g_l_one_right g_l_right g_l_shows g_l_twist g_l_word_of g_law i_InvalidArrows i_InvalidEnds i_InvalidSigns p1 p2 p3 tt_l_one_right tt_law : Addr} (X : K.In h) (G : h.Ns mainGlobals mg) (hfa : mg "law" = some (.ref fa))
    (hT : ∀ P ∈ [tt_l_one_right, tt_law], h.get? P = some { cls := .none, data := .fields #[] })
    {q1 q2 q3 : List Value}
    {od0 an0 : Option Addr} {sl0 : Array (Option Value)} {oc0 kV0 dc0 pm0 cd0 ct0 : Value}
    {od1 an1 : Option Addr} {sl1 : Array (Option Value)} {oc1 kV1 dc1 pm1 cd1 ct1 : Value}
    {od2 an2 : Option Addr} {sl2 : Array (Option Value)} {oc2 kV2 dc2 pm2 cd2 ct2 : Value}
    {od3 an3 : Option Addr} {sl3 : Array (Option Value)} {oc3 kV3 dc3 pm3 cd3 ct3 : Value}
    {od4 an4 : Option Addr} {sl4 : Array (Option Value)} {oc4 kV4 dc4 pm4 cd4 ct4 : Value}
    {od5 an5 : Option Addr} {sl5 : Array (Option Value)} {oc5 kV5 dc5 pm5 cd5 ct5 : Value}
    {od6 an6 : Option Addr} {sl6 : Array (Option Value)} {oc6 kV6 dc6 pm6 cd6 ct6 : Value}
    {od7 an7 : Option Addr} {sl7 : Array (Option Value)} {oc7 kV7 dc7 pm7 cd7 ct7 : Value}
    {od8 an8 : Option Addr} {sl8 : Array (Option Value)} {oc8 kV8 dc8 pm8 cd8 ct8 : Value}
    {od9 an9 : Option Addr} {sl9 : Array (Option Value)} {oc9 kV9 dc9 pm9 cd9 ct9 : Value}
    {od10 an10 : Option Addr} {sl10 : Array (Option Value)} {oc10 kV10 dc10 pm10 cd10 ct10 : Value}
    {od11 an11 : Option Addr} {sl11 : Array (Option Value)} {oc11 kV11 dc11 pm11 cd11 ct11 : Value}
    {od12 an12 : Option Addr} {sl12 : Array (Option Value)} {oc12 kV12 dc12 pm12 cd12 ct12 : Value}
    {od13 an13 : Option Addr} {sl13 : Array (Option Value)} {oc13 kV13 dc13 pm13 cd13 ct13 : Value}
    {od14 an14 : Option Addr} {sl14 : Array (Option Value)} {oc14 kV14 dc14 pm14 cd14 ct14 : Value}
    {od15 an15 : Option Addr} {sl15 : Array (Option Value)} {oc15 kV15 dc15 pm15 cd15 ct15 : Value}
    {od16 an16 : Option Addr} {sl16 : Array (Option Value)} {oc16 kV16 dc16 pm16 cd16 ct16 : Value}
    {od17 an17 : Option Addr} {sl17 : Array (Option Value)} {oc17 kV17 dc17 pm17 cd17 ct17 : Value}
    {od18 an18 : Option Addr} {sl18 : Array (Option Value)} {oc18 kV18 dc18 pm18 cd18 ct18 : Value}
    {od19 an19 : Option Addr} {sl19 : Array (Option Value)} {oc19 kV19 dc19 pm19 cd19 ct19 : Value}
    {od20 an20 : Option Addr} {sl20 : Array (Option Value)} {oc20 kV20 dc20 pm20 cd20 ct20 : Value}
    {od21 an21 : Option Addr} {sl21 : Array (Option Value)} {oc21 kV21 dc21 pm21 cd21 ct21 : Value}
    {od22 an22 : Option Addr} {sl22 : Array (Option Value)} {oc22 kV22 dc22 pm22 cd22 ct22 : Value}
    {od23 an23 : Option Addr} {sl23 : Array (Option Value)} {oc23 kV23 dc23 pm23 cd23 ct23 : Value}
    {od24 an24 : Option Addr} {sl24 : Array (Option Value)} {oc24 kV24 dc24 pm24 cd24 ct24 : Value}
    {od25 an25 : Option Addr} {sl25 : Array (Option Value)} {oc25 kV25 dc25 pm25 cd25 ct25 : Value}
    {od26 an26 : Option Addr} {sl26 : Array (Option Value)} {oc26 kV26 dc26 pm26 cd26 ct26 : Value}
    {od27 an27 : Option Addr} {sl27 : Array (Option Value)} {oc27 kV27 dc27 pm27 cd27 ct27 : Value}
    {od28 an28 : Option Addr} {sl28 : Array (Option Value)} {oc28 kV28 dc28 pm28 ct28 : Value}
    {od29 an29 : Option Addr} {sl29 : Array (Option Value)} {oc29 kV29 dc29 pm29 cd29 ct29 : Value}
    {od30 an30 : Option Addr} {sl30 : Array (Option Value)} {oc30 kV30 dc30 pm30 ct30 : Value}
    {zInvalidArrows_q : Str} {zInvalidArrows_oc : Value} {zInvalidArrows_od : Option Addr} {zInvalidArrows_doc zInvalidArrows_pm : Value} {zInvalidArrows_an : Option Addr} {zInvalidArrows_cdv zInvalidArrows_ct : Value} {zInvalidArrows_osl : Array (Option Value)} {zInvalidArrows_p1 zInvalidArrows_p2 zInvalidArrows_q1 zInvalidArrows_q2 zInvalidArrows_q3 zInvalidArrows_q4 : Pos}
    {zInvalidEnds_q : Str} {zInvalidEnds_oc : Value} {zInvalidEnds_od : Option Addr} {zInvalidEnds_doc zInvalidEnds_pm : Value} {zInvalidEnds_an : Option Addr} {zInvalidEnds_cdv zInvalidEnds_ct : Value} {zInvalidEnds_osl : Array (Option Value)} {zInvalidEnds_p1 zInvalidEnds_p2 zInvalidEnds_q1 zInvalidEnds_q2 zInvalidEnds_q3 zInvalidEnds_q4 : Pos}
    {zInvalidSigns_q : Str} {zInvalidSigns_oc : Value} {zInvalidSigns_od : Option Addr} {zInvalidSigns_doc zInvalidSigns_pm : Value} {zInvalidSigns_an : Option Addr} {zInvalidSigns_cdv zInvalidSigns_ct : Value} {zInvalidSigns_osl : Array (Option Value)} {zInvalidSigns_p1 zInvalidSigns_p2 zInvalidSigns_q1 zInvalidSigns_q2 zInvalidSigns_q3 zInvalidSigns_q4 : Pos}
    {tc_MOST_SIGNS tc_MOST_STANDS : Tok}
    (aC : PySem.W.nsIn K mainGlobals "Reader" = some (some (.ref C)))
    (a_is_integer : PySem.W.nsIn K mainGlobals "is_integer" = some (some (.ref g_is_integer)))
    (a_is_between : PySem.W.nsIn K mainGlobals "is_between" = some (some (.ref g_is_between)))
    (a_is_ascending : PySem.W.nsIn K mainGlobals "is_ascending" = some (some (.ref g_is_ascending)))
    (a_is_stands : PySem.W.nsIn K mainGlobals "is_stands" = some (some (.ref g_is_stands)))
    (a_is_arrows : PySem.W.nsIn K mainGlobals "is_arrows" = some (some (.ref g_is_arrows)))
    (a_is_goals : PySem.W.nsIn K mainGlobals "is_goals" = some (some (.ref g_is_goals)))
    (a_check_signs : PySem.W.nsIn K mainGlobals "check_signs" = some (some (.ref g_check_signs)))
    (a_Reader_init : PySem.W.findIn K (.ref C) "__init__" = some (some (.ref g_Reader_init)))
    (j_Reader_init : PySem.W.isFn K (.ref g_Reader_init) = true)
    (a_Reader_len : PySem.W.findIn K (.ref C) "__len__" = some (some (.ref g_Reader_len)))
    (j_Reader_len : PySem.W.isFn K (.ref g_Reader_len) = true)
    (a_Reader_repr : PySem.W.findIn K (.ref C) "__repr__" = some (some (.ref g_Reader_repr)))
    (j_Reader_repr : PySem.W.isFn K (.ref g_Reader_repr) = true)
    (a_Reader_eq : PySem.W.findIn K (.ref C) "__eq__" = some (some (.ref g_Reader_eq)))
    (j_Reader_eq : PySem.W.isFn K (.ref g_Reader_eq) = true)
    (a_l_barrel : PySem.W.nsIn K mainGlobals "_law_barrel" = some (some (.ref g_l_barrel)))
    (a_l_dip : PySem.W.nsIn K mainGlobals "_law_dip" = some (some (.ref g_l_dip)))
    (a_l_one_of : PySem.W.nsIn K mainGlobals "_law_one_of" = some (some (.ref g_l_one_of)))
    (a_l_arrows_for : PySem.W.nsIn K mainGlobals "_law_arrows_for" = some (some (.ref g_l_arrows_for)))
    (a_l_ends_for : PySem.W.nsIn K mainGlobals "_law_ends_for" = some (some (.ref g_l_ends_for)))
    (a_l_is_count : PySem.W.nsIn K mainGlobals "_law_is_count" = some (some (.ref g_l_is_count)))
    (a_l_any : PySem.W.nsIn K mainGlobals "_law_any" = some (some (.ref g_l_any)))
    (a_l_twist : PySem.W.nsIn K mainGlobals "_law_twist" = some (some (.ref g_l_twist)))
    (a_l_word_of : PySem.W.nsIn K mainGlobals "_law_word_of" = some (some (.ref g_l_word_of)))
    (a_l_came : PySem.W.nsIn K mainGlobals "_law_came" = some (some (.ref g_l_came)))
    (a_l_is_table : PySem.W.nsIn K mainGlobals "_law_is_table" = some (some (.ref g_l_is_table)))
    (a_l_are_ends : PySem.W.nsIn K mainGlobals "_law_are_ends" = some (some (.ref g_l_are_ends)))
    (a_l_due : PySem.W.nsIn K mainGlobals "_law_due" = some (some (.ref g_l_due)))
    (a_l_shows : PySem.W.nsIn K mainGlobals "_law_shows" = some (some (.ref g_l_shows)))
    (a_l_one_right : PySem.W.nsIn K mainGlobals "_law_one_right" = some (some (.ref g_l_one_right)))
    (a_l_right : PySem.W.nsIn K mainGlobals "_law_right" = some (some (.ref g_l_right)))
    (a_law : PySem.W.nsIn K mainGlobals "law" = some (some (.ref g_law)))
    (u1 : PySem.W.findIn K (.ref C) "signs" = some (some (.ref p1)))
    (v1 : PySem.W.specialIn K (.ref p1) "__get__" = some (some (.builtin "property.__get__")))
    (w1 : PySem.W.takesIn K (.ref p1) = some true)
    (x1 : PySem.W.recIn K p1 "property" = some (.ref g_Reader_signs :: q1))
    (u2 : PySem.W.findIn K (.ref C) "arrows" = some (some (.ref p2)))
    (v2 : PySem.W.specialIn K (.ref p2) "__get__" = some (some (.builtin "property.__get__")))
    (w2 : PySem.W.takesIn K (.ref p2) = some true)
    (x2 : PySem.W.recIn K p2 "property" = some (.ref g_Reader_arrows :: q2))
    (u3 : PySem.W.findIn K (.ref C) "ends" = some (some (.ref p3)))
    (v3 : PySem.W.specialIn K (.ref p3) "__get__" = some (some (.builtin "property.__get__")))
    (w3 : PySem.W.takesIn K (.ref p3) = some true)
    (x3 : PySem.W.recIn K p3 "property" = some (.ref g_Reader_ends :: q3))
    (l_is_integer : K.lookup g_is_integer = some ⟨oc0, od0, .func (PySem.W.fnOf "is_integer" "is_integer" (defArgs s_is_integer) (defBody s_is_integer) (defScope s_is_integer) .none kV0 dc0 pm0 an0 cd0 ct0), sl0⟩)
    (c_is_integer : PySem.W.codeIn K cd0 "is_integer" = true)
    (k_is_integer : PySem.W.keepIn K (.ref g_is_integer) = true)
    (l_is_between : K.lookup g_is_between = some ⟨oc1, od1, .func (PySem.W.fnOf "is_between" "is_between" (defArgs s_is_between) (defBody s_is_between) (defScope s_is_between) .none kV1 dc1 pm1 an1 cd1 ct1), sl1⟩)
    (c_is_between : PySem.W.codeIn K cd1 "is_between" = true)
    (k_is_between : PySem.W.keepIn K (.ref g_is_between) = true)
    (l_is_ascending : K.lookup g_is_ascending = some ⟨oc2, od2, .func (PySem.W.fnOf "is_ascending" "is_ascending" (defArgs s_is_ascending) (defBody s_is_ascending) (defScope s_is_ascending) .none kV2 dc2 pm2 an2 cd2 ct2), sl2⟩)
    (c_is_ascending : PySem.W.codeIn K cd2 "is_ascending" = true)
    (k_is_ascending : PySem.W.keepIn K (.ref g_is_ascending) = true)
    (l_is_stands : K.lookup g_is_stands = some ⟨oc3, od3, .func (PySem.W.fnOf "is_stands" "is_stands" (defArgs s_is_stands) (defBody s_is_stands) (defScope s_is_stands) .none kV3 dc3 pm3 an3 cd3 ct3), sl3⟩)
    (c_is_stands : PySem.W.codeIn K cd3 "is_stands" = true)
    (k_is_stands : PySem.W.keepIn K (.ref g_is_stands) = true)
    (l_is_arrows : K.lookup g_is_arrows = some ⟨oc4, od4, .func (PySem.W.fnOf "is_arrows" "is_arrows" (defArgs s_is_arrows) (defBody s_is_arrows) (defScope s_is_arrows) .none kV4 dc4 pm4 an4 cd4 ct4), sl4⟩)
    (c_is_arrows : PySem.W.codeIn K cd4 "is_arrows" = true)
    (k_is_arrows : PySem.W.keepIn K (.ref g_is_arrows) = true)
    (l_is_goals : K.lookup g_is_goals = some ⟨oc5, od5, .func (PySem.W.fnOf "is_goals" "is_goals" (defArgs s_is_goals) (defBody s_is_goals) (defScope s_is_goals) .none kV5 dc5 pm5 an5 cd5 ct5), sl5⟩)
    (c_is_goals : PySem.W.codeIn K cd5 "is_goals" = true)
    (k_is_goals : PySem.W.keepIn K (.ref g_is_goals) = true)
    (l_check_signs : K.lookup g_check_signs = some ⟨oc6, od6, .func (PySem.W.fnOf "check_signs" "check_signs" (defArgs s_check_signs) (defBody s_check_signs) (defScope s_check_signs) .none kV6 dc6 pm6 an6 cd6 ct6), sl6⟩)
    (c_check_signs : PySem.W.codeIn K cd6 "check_signs" = true)
    (k_check_signs : PySem.W.keepIn K (.ref g_check_signs) = true)
    (l_Reader_init : K.lookup g_Reader_init = some ⟨oc7, od7, .func (PySem.W.fnOf "__init__" "Reader.__init__" (defArgs s_Reader_init) (defBody s_Reader_init) (defScope s_Reader_init) .none kV7 dc7 pm7 an7 cd7 ct7), sl7⟩)
    (c_Reader_init : PySem.W.codeIn K cd7 "Reader.__init__" = true)
    (k_Reader_init : PySem.W.keepIn K (.ref g_Reader_init) = true)
    (l_Reader_signs : K.lookup g_Reader_signs = some ⟨oc8, od8, .func (PySem.W.fnOf "signs" "Reader.signs" (defArgs s_Reader_signs) (defBody s_Reader_signs) (defScope s_Reader_signs) .none kV8 dc8 pm8 an8 cd8 ct8), sl8⟩)
    (c_Reader_signs : PySem.W.codeIn K cd8 "Reader.signs" = true)
    (k_Reader_signs : PySem.W.keepIn K (.ref g_Reader_signs) = true)
    (l_Reader_arrows : K.lookup g_Reader_arrows = some ⟨oc9, od9, .func (PySem.W.fnOf "arrows" "Reader.arrows" (defArgs s_Reader_arrows) (defBody s_Reader_arrows) (defScope s_Reader_arrows) .none kV9 dc9 pm9 an9 cd9 ct9), sl9⟩)
    (c_Reader_arrows : PySem.W.codeIn K cd9 "Reader.arrows" = true)
    (k_Reader_arrows : PySem.W.keepIn K (.ref g_Reader_arrows) = true)
    (l_Reader_ends : K.lookup g_Reader_ends = some ⟨oc10, od10, .func (PySem.W.fnOf "ends" "Reader.ends" (defArgs s_Reader_ends) (defBody s_Reader_ends) (defScope s_Reader_ends) .none kV10 dc10 pm10 an10 cd10 ct10), sl10⟩)
    (c_Reader_ends : PySem.W.codeIn K cd10 "Reader.ends" = true)
    (k_Reader_ends : PySem.W.keepIn K (.ref g_Reader_ends) = true)
    (l_Reader_len : K.lookup g_Reader_len = some ⟨oc11, od11, .func (PySem.W.fnOf "__len__" "Reader.__len__" (defArgs s_Reader_len) (defBody s_Reader_len) (defScope s_Reader_len) .none kV11 dc11 pm11 an11 cd11 ct11), sl11⟩)
    (c_Reader_len : PySem.W.codeIn K cd11 "Reader.__len__" = true)
    (k_Reader_len : PySem.W.keepIn K (.ref g_Reader_len) = true)
    (l_Reader_repr : K.lookup g_Reader_repr = some ⟨oc12, od12, .func (PySem.W.fnOf "__repr__" "Reader.__repr__" (defArgs s_Reader_repr) (defBody s_Reader_repr) (defScope s_Reader_repr) .none kV12 dc12 pm12 an12 cd12 ct12), sl12⟩)
    (c_Reader_repr : PySem.W.codeIn K cd12 "Reader.__repr__" = true)
    (k_Reader_repr : PySem.W.keepIn K (.ref g_Reader_repr) = true)
    (l_Reader_eq : K.lookup g_Reader_eq = some ⟨oc13, od13, .func (PySem.W.fnOf "__eq__" "Reader.__eq__" (defArgs s_Reader_eq) (defBody s_Reader_eq) (defScope s_Reader_eq) .none kV13 dc13 pm13 an13 cd13 ct13), sl13⟩)
    (c_Reader_eq : PySem.W.codeIn K cd13 "Reader.__eq__" = true)
    (k_Reader_eq : PySem.W.keepIn K (.ref g_Reader_eq) = true)
    (l_l_barrel : K.lookup g_l_barrel = some ⟨oc14, od14, .func (PySem.W.fnOf "_law_barrel" "_law_barrel" (defArgs s_l_barrel) (defBody s_l_barrel) (defScope s_l_barrel) .none kV14 dc14 pm14 an14 cd14 ct14), sl14⟩)
    (c_l_barrel : PySem.W.codeIn K cd14 "_law_barrel" = true)
    (k_l_barrel : PySem.W.keepIn K (.ref g_l_barrel) = true)
    (l_l_dip : K.lookup g_l_dip = some ⟨oc15, od15, .func (PySem.W.fnOf "_law_dip" "_law_dip" (defArgs s_l_dip) (defBody s_l_dip) (defScope s_l_dip) .none kV15 dc15 pm15 an15 cd15 ct15), sl15⟩)
    (c_l_dip : PySem.W.codeIn K cd15 "_law_dip" = true)
    (k_l_dip : PySem.W.keepIn K (.ref g_l_dip) = true)
    (l_l_one_of : K.lookup g_l_one_of = some ⟨oc16, od16, .func (PySem.W.fnOf "_law_one_of" "_law_one_of" (defArgs s_l_one_of) (defBody s_l_one_of) (defScope s_l_one_of) .none kV16 dc16 pm16 an16 cd16 ct16), sl16⟩)
    (c_l_one_of : PySem.W.codeIn K cd16 "_law_one_of" = true)
    (k_l_one_of : PySem.W.keepIn K (.ref g_l_one_of) = true)
    (l_l_arrows_for : K.lookup g_l_arrows_for = some ⟨oc17, od17, .func (PySem.W.fnOf "_law_arrows_for" "_law_arrows_for" (defArgs s_l_arrows_for) (defBody s_l_arrows_for) (defScope s_l_arrows_for) .none kV17 dc17 pm17 an17 cd17 ct17), sl17⟩)
    (c_l_arrows_for : PySem.W.codeIn K cd17 "_law_arrows_for" = true)
    (k_l_arrows_for : PySem.W.keepIn K (.ref g_l_arrows_for) = true)
    (l_l_ends_for : K.lookup g_l_ends_for = some ⟨oc18, od18, .func (PySem.W.fnOf "_law_ends_for" "_law_ends_for" (defArgs s_l_ends_for) (defBody s_l_ends_for) (defScope s_l_ends_for) .none kV18 dc18 pm18 an18 cd18 ct18), sl18⟩)
    (c_l_ends_for : PySem.W.codeIn K cd18 "_law_ends_for" = true)
    (k_l_ends_for : PySem.W.keepIn K (.ref g_l_ends_for) = true)
    (l_l_is_count : K.lookup g_l_is_count = some ⟨oc19, od19, .func (PySem.W.fnOf "_law_is_count" "_law_is_count" (defArgs s_l_is_count) (defBody s_l_is_count) (defScope s_l_is_count) .none kV19 dc19 pm19 an19 cd19 ct19), sl19⟩)
    (c_l_is_count : PySem.W.codeIn K cd19 "_law_is_count" = true)
    (k_l_is_count : PySem.W.keepIn K (.ref g_l_is_count) = true)
    (l_l_any : K.lookup g_l_any = some ⟨oc20, od20, .func (PySem.W.fnOf "_law_any" "_law_any" (defArgs s_l_any) (defBody s_l_any) (defScope s_l_any) .none kV20 dc20 pm20 an20 cd20 ct20), sl20⟩)
    (c_l_any : PySem.W.codeIn K cd20 "_law_any" = true)
    (k_l_any : PySem.W.keepIn K (.ref g_l_any) = true)
    (l_l_twist : K.lookup g_l_twist = some ⟨oc21, od21, .func (PySem.W.fnOf "_law_twist" "_law_twist" (defArgs s_l_twist) (defBody s_l_twist) (defScope s_l_twist) .none kV21 dc21 pm21 an21 cd21 ct21), sl21⟩)
    (c_l_twist : PySem.W.codeIn K cd21 "_law_twist" = true)
    (k_l_twist : PySem.W.keepIn K (.ref g_l_twist) = true)
    (l_l_word_of : K.lookup g_l_word_of = some ⟨oc22, od22, .func (PySem.W.fnOf "_law_word_of" "_law_word_of" (defArgs s_l_word_of) (defBody s_l_word_of) (defScope s_l_word_of) .none kV22 dc22 pm22 an22 cd22 ct22), sl22⟩)
    (c_l_word_of : PySem.W.codeIn K cd22 "_law_word_of" = true)
    (k_l_word_of : PySem.W.keepIn K (.ref g_l_word_of) = true)
    (l_l_came : K.lookup g_l_came = some ⟨oc23, od23, .func (PySem.W.fnOf "_law_came" "_law_came" (defArgs s_l_came) (defBody s_l_came) (defScope s_l_came) .none kV23 dc23 pm23 an23 cd23 ct23), sl23⟩)
    (c_l_came : PySem.W.codeIn K cd23 "_law_came" = true)
    (k_l_came : PySem.W.keepIn K (.ref g_l_came) = true)
    (l_l_is_table : K.lookup g_l_is_table = some ⟨oc24, od24, .func (PySem.W.fnOf "_law_is_table" "_law_is_table" (defArgs s_l_is_table) (defBody s_l_is_table) (defScope s_l_is_table) .none kV24 dc24 pm24 an24 cd24 ct24), sl24⟩)
    (c_l_is_table : PySem.W.codeIn K cd24 "_law_is_table" = true)
    (k_l_is_table : PySem.W.keepIn K (.ref g_l_is_table) = true)
    (l_l_are_ends : K.lookup g_l_are_ends = some ⟨oc25, od25, .func (PySem.W.fnOf "_law_are_ends" "_law_are_ends" (defArgs s_l_are_ends) (defBody s_l_are_ends) (defScope s_l_are_ends) .none kV25 dc25 pm25 an25 cd25 ct25), sl25⟩)
    (c_l_are_ends : PySem.W.codeIn K cd25 "_law_are_ends" = true)
    (k_l_are_ends : PySem.W.keepIn K (.ref g_l_are_ends) = true)
    (l_l_due : K.lookup g_l_due = some ⟨oc26, od26, .func (PySem.W.fnOf "_law_due" "_law_due" (defArgs s_l_due) (defBody s_l_due) (defScope s_l_due) .none kV26 dc26 pm26 an26 cd26 ct26), sl26⟩)
    (c_l_due : PySem.W.codeIn K cd26 "_law_due" = true)
    (k_l_due : PySem.W.keepIn K (.ref g_l_due) = true)
    (l_l_shows : K.lookup g_l_shows = some ⟨oc27, od27, .func (PySem.W.fnOf "_law_shows" "_law_shows" (defArgs s_l_shows) (defBody s_l_shows) (defScope s_l_shows) .none kV27 dc27 pm27 an27 cd27 ct27), sl27⟩)
    (c_l_shows : PySem.W.codeIn K cd27 "_law_shows" = true)
    (k_l_shows : PySem.W.keepIn K (.ref g_l_shows) = true)
    (l_l_one_right : K.lookup g_l_one_right = some ⟨oc28, od28, .func (PySem.W.fnOf "_law_one_right" "_law_one_right" (defArgs s_l_one_right) (defBody s_l_one_right) (defScope s_l_one_right) .none kV28 dc28 pm28 an28 (.ref cc_l_one_right) ct28), sl28⟩)
    (c_l_one_right : PySem.W.codeIn K (.ref cc_l_one_right) "_law_one_right" = true)
    (k_l_one_right : PySem.W.keepIn K (.ref g_l_one_right) = true)
    (l_l_right : K.lookup g_l_right = some ⟨oc29, od29, .func (PySem.W.fnOf "_law_right" "_law_right" (defArgs s_l_right) (defBody s_l_right) (defScope s_l_right) .none kV29 dc29 pm29 an29 cd29 ct29), sl29⟩)
    (c_l_right : PySem.W.codeIn K cd29 "_law_right" = true)
    (k_l_right : PySem.W.keepIn K (.ref g_l_right) = true)
    (l_law : K.lookup g_law = some ⟨oc30, od30, .func (PySem.W.fnOf "law" "law" (defArgs s_law) (defBody s_law) (defScope s_law) .none kV30 dc30 pm30 an30 (.ref cc_law) ct30), sl30⟩)
    (c_law : PySem.W.codeIn K (.ref cc_law) "law" = true)
    (k_law : PySem.W.keepIn K (.ref g_law) = true)
    (pg : PySem.W.plainGet K C Str.empty = true)
    (hd : PySem.W.hasDictIn K C = true)
    (po : PySem.W.plainOver K C = true)
    (sa : PySem.W.findIn K (.ref C) "__setattr__" = some (some (.builtin "object.__setattr__")))
    (mk : PySem.W.makesIn K C = true)
    (kc : PySem.W.keepIn K (.ref C) = true)
    (n1 : PySem.W.findIn K (.ref C) "_signs" = some none)
    (n2 : PySem.W.findIn K (.ref C) "_arrows" = some none)
    (n3 : PySem.W.findIn K (.ref C) "_ends" = some none)
    (yb_ArithmeticError : PySem.W.nsIn K mainGlobals "ArithmeticError" = some none)
    (yb_ValueError : PySem.W.nsIn K mainGlobals "ValueError" = some none)
    (yb_abs : PySem.W.nsIn K mainGlobals "abs" = some none)
    (yb_all : PySem.W.nsIn K mainGlobals "all" = some none)
    (yb_bool : PySem.W.nsIn K mainGlobals "bool" = some none)
    (yb_divmod : PySem.W.nsIn K mainGlobals "divmod" = some none)
    (yb_int : PySem.W.nsIn K mainGlobals "int" = some none)
    (yb_isinstance : PySem.W.nsIn K mainGlobals "isinstance" = some none)
    (yb_len : PySem.W.nsIn K mainGlobals "len" = some none)
    (yb_list : PySem.W.nsIn K mainGlobals "list" = some none)
    (yb_max : PySem.W.nsIn K mainGlobals "max" = some none)
    (yb_min : PySem.W.nsIn K mainGlobals "min" = some none)
    (yb_range : PySem.W.nsIn K mainGlobals "range" = some none)
    (yb_repr : PySem.W.nsIn K mainGlobals "repr" = some none)
    (yb_str : PySem.W.nsIn K mainGlobals "str" = some none)
    (yb_tuple : PySem.W.nsIn K mainGlobals "tuple" = some none)
    (yc_MOST_SIGNS : PySem.W.nsIn K mainGlobals "MOST_SIGNS" = some (some (.int 8 tc_MOST_SIGNS)))
    (yc_MOST_STANDS : PySem.W.nsIn K mainGlobals "MOST_STANDS" = some (some (.int 200 tc_MOST_STANDS)))
    (t_ha : PySem.W.findIn K (.ref C) "__class__" = some (some (.builtin "object.__class__")))
    (t_hn : PySem.W.specialIn K (.builtin "object.__class__") "__get__" = some (some (.builtin "getset_descriptor.__get__")))
    (t_tk : PySem.W.takesIn K (.builtin "object.__class__") = some true)
    (t_mo : PySem.W.mroIn K C (.type "object") = some true)
    (nb : PySem.W.findIn K (.ref C) "__bool__" = some none)
    (own_ne : PySem.W.findIn K (.ref C) "__ne__" = some (some (.builtin "object.__ne__")))
    (nf_C : PySem.W.notFirst K C (.ref C) = true)
    (kt_C : PySem.W.kitOne K (.ref C) (.ref C) = some true)
    (nf_tuple : PySem.W.notFirst K C (.type "tuple") = true)
    (kc_NoneType : PySem.W.kitOne K (.type "NoneType") (.ref C) = some false)
    (kc_bool : PySem.W.kitOne K (.type "bool") (.ref C) = some false)
    (kc_int : PySem.W.kitOne K (.type "int") (.ref C) = some false)
    (kc_str : PySem.W.kitOne K (.type "str") (.ref C) = some false)
    (kc_tuple : PySem.W.kitOne K (.type "tuple") (.ref C) = some false)
    (kc_list : PySem.W.kitOne K (.type "list") (.ref C) = some false)
    (kc_dict : PySem.W.kitOne K (.type "dict") (.ref C) = some false)
    (ymx_InvalidArrows : PySem.W.nsIn K mainGlobals "InvalidArrows" = some (some (.ref e_InvalidArrows)))
    (ymx_InvalidEnds : PySem.W.nsIn K mainGlobals "InvalidEnds" = some (some (.ref e_InvalidEnds)))
    (ymx_InvalidSigns : PySem.W.nsIn K mainGlobals "InvalidSigns" = some (some (.ref e_InvalidSigns)))
    (ymx_NoAnswer : PySem.W.nsIn K mainGlobals "NoAnswer" = some (some (.ref e_NoAnswer)))
    (ymx_WrongValue : PySem.W.nsIn K mainGlobals "WrongValue" = some (some (.ref e_WrongValue)))
    (zInvalidArrows_ini : PySem.W.excInitIn K e_InvalidArrows [.type "ValueError", .type "Exception", .type "BaseException", .type "object"] "ValueError.__new__" = true)
    (zInvalidArrows_ovr : PySem.W.excOver K e_InvalidArrows [.type "ValueError", .type "Exception", .type "BaseException", .type "object"] = true)
    (zInvalidArrows_tkr : PySem.W.takerIn K e_InvalidArrows "given" = some none)
    (zInvalidArrows_sa : PySem.W.findIn K (.ref e_InvalidArrows) "__setattr__" = some (some (.builtin "object.__setattr__")))
    (zInvalidArrows_ga : PySem.W.findIn K (.ref e_InvalidArrows) "__getattribute__" = some (some (.builtin "BaseException.__getattribute__")))
    (zInvalidArrows_gg : PySem.W.findIn K (.ref e_InvalidArrows) "__getattr__" = some none)
    (zInvalidArrows_noN : PySem.W.findIn K (.ref e_InvalidArrows) "given" = some none)
    (zInvalidArrows_iC : PySem.W.findIn K (.ref e_InvalidArrows) "__init__" = some (some (.ref i_InvalidArrows)))
    (zInvalidArrows_tC : PySem.W.typeIn K (.ref i_InvalidArrows) = some (.type "function"))
    (zInvalidArrows_kC : PySem.W.keepIn K (.ref e_InvalidArrows) = true)
    (zInvalidArrows_exC : PySem.W.subIn K (.ref e_InvalidArrows) (.type "BaseException") = some true)
    (zInvalidArrows_tyC : PySem.W.typeIn K (.ref e_InvalidArrows) = some (.type "type"))
    (zInvalidArrows_hdC : PySem.W.hasDictIn K e_InvalidArrows = true)
    (zInvalidArrows_cls : PySem.W.findIn K (.ref e_InvalidArrows) "__class__" = some (some (.builtin "object.__class__")))
    (zInvalidArrows_clm : PySem.W.mroIn K e_InvalidArrows (.type "object") = some true)
    (zInvalidArrows_lk : K.lookup i_InvalidArrows = some ⟨zInvalidArrows_oc, zInvalidArrows_od, .func (PySem.W.fnOf "__init__" zInvalidArrows_q (Ex_given.iA zInvalidArrows_p1 zInvalidArrows_p2) (Ex_given.iB zInvalidArrows_q1 zInvalidArrows_q2 zInvalidArrows_q3 zInvalidArrows_q4) Ex_given.iS .none .none zInvalidArrows_doc zInvalidArrows_pm zInvalidArrows_an zInvalidArrows_cdv zInvalidArrows_ct), zInvalidArrows_osl⟩)
    (zInvalidArrows_cd : PySem.W.codeIn K zInvalidArrows_cdv zInvalidArrows_q = true)
    (zInvalidEnds_ini : PySem.W.excInitIn K e_InvalidEnds [.type "ValueError", .type "Exception", .type "BaseException", .type "object"] "ValueError.__new__" = true)
    (zInvalidEnds_ovr : PySem.W.excOver K e_InvalidEnds [.type "ValueError", .type "Exception", .type "BaseException", .type "object"] = true)
    (zInvalidEnds_tkr : PySem.W.takerIn K e_InvalidEnds "given" = some none)
    (zInvalidEnds_sa : PySem.W.findIn K (.ref e_InvalidEnds) "__setattr__" = some (some (.builtin "object.__setattr__")))
    (zInvalidEnds_ga : PySem.W.findIn K (.ref e_InvalidEnds) "__getattribute__" = some (some (.builtin "BaseException.__getattribute__")))
    (zInvalidEnds_gg : PySem.W.findIn K (.ref e_InvalidEnds) "__getattr__" = some none)
    (zInvalidEnds_noN : PySem.W.findIn K (.ref e_InvalidEnds) "given" = some none)
    (zInvalidEnds_iC : PySem.W.findIn K (.ref e_InvalidEnds) "__init__" = some (some (.ref i_InvalidEnds)))
    (zInvalidEnds_tC : PySem.W.typeIn K (.ref i_InvalidEnds) = some (.type "function"))
    (zInvalidEnds_kC : PySem.W.keepIn K (.ref e_InvalidEnds) = true)
    (zInvalidEnds_exC : PySem.W.subIn K (.ref e_InvalidEnds) (.type "BaseException") = some true)
    (zInvalidEnds_tyC : PySem.W.typeIn K (.ref e_InvalidEnds) = some (.type "type"))
    (zInvalidEnds_hdC : PySem.W.hasDictIn K e_InvalidEnds = true)
    (zInvalidEnds_cls : PySem.W.findIn K (.ref e_InvalidEnds) "__class__" = some (some (.builtin "object.__class__")))
    (zInvalidEnds_clm : PySem.W.mroIn K e_InvalidEnds (.type "object") = some true)
    (zInvalidEnds_lk : K.lookup i_InvalidEnds = some ⟨zInvalidEnds_oc, zInvalidEnds_od, .func (PySem.W.fnOf "__init__" zInvalidEnds_q (Ex_given.iA zInvalidEnds_p1 zInvalidEnds_p2) (Ex_given.iB zInvalidEnds_q1 zInvalidEnds_q2 zInvalidEnds_q3 zInvalidEnds_q4) Ex_given.iS .none .none zInvalidEnds_doc zInvalidEnds_pm zInvalidEnds_an zInvalidEnds_cdv zInvalidEnds_ct), zInvalidEnds_osl⟩)
    (zInvalidEnds_cd : PySem.W.codeIn K zInvalidEnds_cdv zInvalidEnds_q = true)
    (zInvalidSigns_ini : PySem.W.excInitIn K e_InvalidSigns [.type "ValueError", .type "Exception", .type "BaseException", .type "object"] "ValueError.__new__" = true)
    (zInvalidSigns_ovr : PySem.W.excOver K e_InvalidSigns [.type "ValueError", .type "Exception", .type "BaseException", .type "object"] = true)
    (zInvalidSigns_tkr : PySem.W.takerIn K e_InvalidSigns "given" = some none)
    (zInvalidSigns_sa : PySem.W.findIn K (.ref e_InvalidSigns) "__setattr__" = some (some (.builtin "object.__setattr__")))
    (zInvalidSigns_ga : PySem.W.findIn K (.ref e_InvalidSigns) "__getattribute__" = some (some (.builtin "BaseException.__getattribute__")))
    (zInvalidSigns_gg : PySem.W.findIn K (.ref e_InvalidSigns) "__getattr__" = some none)
    (zInvalidSigns_noN : PySem.W.findIn K (.ref e_InvalidSigns) "given" = some none)
    (zInvalidSigns_iC : PySem.W.findIn K (.ref e_InvalidSigns) "__init__" = some (some (.ref i_InvalidSigns)))
    (zInvalidSigns_tC : PySem.W.typeIn K (.ref i_InvalidSigns) = some (.type "function"))
    (zInvalidSigns_kC : PySem.W.keepIn K (.ref e_InvalidSigns) = true)
    (zInvalidSigns_exC : PySem.W.subIn K (.ref e_InvalidSigns) (.type "BaseException") = some true)
    (zInvalidSigns_tyC : PySem.W.typeIn K (.ref e_InvalidSigns) = some (.type "type"))
    (zInvalidSigns_hdC : PySem.W.hasDictIn K e_InvalidSigns = true)
    (zInvalidSigns_cls : PySem.W.findIn K (.ref e_InvalidSigns) "__class__" = some (some (.builtin "object.__class__")))
    (zInvalidSigns_clm : PySem.W.mroIn K e_InvalidSigns (.type "object") = some true)
    (zInvalidSigns_lk : K.lookup i_InvalidSigns = some ⟨zInvalidSigns_oc, zInvalidSigns_od, .func (PySem.W.fnOf "__init__" zInvalidSigns_q (Ex_given.iA zInvalidSigns_p1 zInvalidSigns_p2) (Ex_given.iB zInvalidSigns_q1 zInvalidSigns_q2 zInvalidSigns_q3 zInvalidSigns_q4) Ex_given.iS .none .none zInvalidSigns_doc zInvalidSigns_pm zInvalidSigns_an zInvalidSigns_cdv zInvalidSigns_ct), zInvalidSigns_osl⟩)
    (zInvalidSigns_cd : PySem.W.codeIn K zInvalidSigns_cdv zInvalidSigns_q = true)
    (kit_InvalidArrows_InvalidSigns : PySem.W.kitOne K (.ref e_InvalidArrows) (.ref e_InvalidSigns) = some false)
    (kit_InvalidArrows_InvalidEnds : PySem.W.kitOne K (.ref e_InvalidArrows) (.ref e_InvalidEnds) = some false)
    (kit_InvalidArrows_InvalidArrows : PySem.W.kitOne K (.ref e_InvalidArrows) (.ref e_InvalidArrows) = some true)
    (kit_InvalidArrows_NoAnswer : PySem.W.kitOne K (.ref e_InvalidArrows) (.ref e_NoAnswer) = some false)
    (kit_InvalidArrows_WrongValue : PySem.W.kitOne K (.ref e_InvalidArrows) (.ref e_WrongValue) = some true)
    (kit_InvalidArrows_ValueError : PySem.W.kitOne K (.ref e_InvalidArrows) (.type "ValueError") = some true)
    (kit_InvalidArrows_ArithmeticError : PySem.W.kitOne K (.ref e_InvalidArrows) (.type "ArithmeticError") = some false)
    (exm_InvalidArrows : PySem.W.exmAny K (.ref e_InvalidArrows) [.ref e_WrongValue, .ref e_NoAnswer] = some true)
    (kit_InvalidEnds_InvalidSigns : PySem.W.kitOne K (.ref e_InvalidEnds) (.ref e_InvalidSigns) = some false)
    (kit_InvalidEnds_InvalidEnds : PySem.W.kitOne K (.ref e_InvalidEnds) (.ref e_InvalidEnds) = some true)
    (kit_InvalidEnds_InvalidArrows : PySem.W.kitOne K (.ref e_InvalidEnds) (.ref e_InvalidArrows) = some false)
    (kit_InvalidEnds_NoAnswer : PySem.W.kitOne K (.ref e_InvalidEnds) (.ref e_NoAnswer) = some false)
    (kit_InvalidEnds_WrongValue : PySem.W.kitOne K (.ref e_InvalidEnds) (.ref e_WrongValue) = some true)
    (kit_InvalidEnds_ValueError : PySem.W.kitOne K (.ref e_InvalidEnds) (.type "ValueError") = some true)
    (kit_InvalidEnds_ArithmeticError : PySem.W.kitOne K (.ref e_InvalidEnds) (.type "ArithmeticError") = some false)
    (exm_InvalidEnds : PySem.W.exmAny K (.ref e_InvalidEnds) [.ref e_WrongValue, .ref e_NoAnswer] = some true)
    (kit_InvalidSigns_InvalidSigns : PySem.W.kitOne K (.ref e_InvalidSigns) (.ref e_InvalidSigns) = some true)
    (kit_InvalidSigns_InvalidEnds : PySem.W.kitOne K (.ref e_InvalidSigns) (.ref e_InvalidEnds) = some false)
    (kit_InvalidSigns_InvalidArrows : PySem.W.kitOne K (.ref e_InvalidSigns) (.ref e_InvalidArrows) = some false)
    (kit_InvalidSigns_NoAnswer : PySem.W.kitOne K (.ref e_InvalidSigns) (.ref e_NoAnswer) = some false)
    (kit_InvalidSigns_WrongValue : PySem.W.kitOne K (.ref e_InvalidSigns) (.ref e_WrongValue) = some true)
    (kit_InvalidSigns_ValueError : PySem.W.kitOne K (.ref e_InvalidSigns) (.type "ValueError") = some true)
    (kit_InvalidSigns_ArithmeticError : PySem.W.kitOne K (.ref e_InvalidSigns) (.type "ArithmeticError") = some false)
    (exm_InvalidSigns : PySem.W.exmAny K (.ref e_InvalidSigns) [.ref e_WrongValue, .ref e_NoAnswer] = some true)
    (ne_l_one_right_law : tt_l_one_right ≠ tt_law)
    (hd_l_one_right : PySem.W.codeHdIn K cc_l_one_right tt_l_one_right = true)
    (hd_law : PySem.W.codeHdIn K cc_law tt_law = true)
    (no_l_one_right : K.lookup tt_l_one_right = none)
    (no_law : K.lookup tt_law = none)
    : ∃ (cs : List (Addr × Addr)) (fd : FuncData), (∀ p ∈ cs, h.get? p.2 = some { cls := .none, data := .fields #[] }) ∧ (∀ p ∈ cs, K.lookup p.2 = none) ∧ (∀ p ∈ cs, PySem.W.CodeHd h p.1 p.2) ∧ (∀ (s : Shared) (u : Value), BindsTo s fd ⟨[u], []⟩ [("_law_script", u)]) ∧
      ∀ base : Heap, K.In base → base.Ns mainGlobals mg → (∀ p ∈ cs, TabB base mg p.1 p.2) → FnOkG P w K mg base 59 fa fd ["_law_script"] (spLawC K cs) := by
  have e := hfa.symm.trans (PySem.W.mg_of X G a_law)
  cases e
  let A : Ad := { is_integer := g_is_integer, is_between := g_is_between, is_ascending := g_is_ascending, is_stands := g_is_stands, is_arrows := g_is_arrows, is_goals := g_is_goals, check_signs := g_check_signs, Reader_init := g_Reader_init, Reader_signs := g_Reader_signs, Reader_arrows := g_Reader_arrows, Reader_ends := g_Reader_ends, Reader_len := g_Reader_len, Reader_repr := g_Reader_repr, Reader_eq := g_Reader_eq, l_barrel := g_l_barrel, l_dip := g_l_dip, l_one_of := g_l_one_of, l_arrows_for := g_l_arrows_for, l_ends_for := g_l_ends_for, l_is_count := g_l_is_count, l_any := g_l_any, l_twist := g_l_twist, l_word_of := g_l_word_of, l_came := g_l_came, l_is_table := g_l_is_table, l_are_ends := g_l_are_ends, l_due := g_l_due, l_shows := g_l_shows, l_one_right := g_l_one_right, l_right := g_l_right, law := fa, C := C, pr_signs := p1, pr_arrows := p2, pr_ends := p3, x_InvalidArrows := e_InvalidArrows, x_InvalidEnds := e_InvalidEnds, x_InvalidSigns := e_InvalidSigns, x_NoAnswer := e_NoAnswer, x_WrongValue := e_WrongValue, xi_InvalidArrows := i_InvalidArrows, xi_InvalidEnds := i_InvalidEnds, xi_InvalidSigns := i_InvalidSigns, c_l_one_right := cc_l_one_right, t_l_one_right := tt_l_one_right, c_law := cc_law, t_law := tt_law }
  let fd : Fds := { is_integer := PySem.W.fnOf "is_integer" "is_integer" (defArgs s_is_integer) (defBody s_is_integer) (defScope s_is_integer) .none kV0 dc0 pm0 an0 cd0 ct0, is_between := PySem.W.fnOf "is_between" "is_between" (defArgs s_is_between) (defBody s_is_between) (defScope s_is_between) .none kV1 dc1 pm1 an1 cd1 ct1, is_ascending := PySem.W.fnOf "is_ascending" "is_ascending" (defArgs s_is_ascending) (defBody s_is_ascending) (defScope s_is_ascending) .none kV2 dc2 pm2 an2 cd2 ct2, is_stands := PySem.W.fnOf "is_stands" "is_stands" (defArgs s_is_stands) (defBody s_is_stands) (defScope s_is_stands) .none kV3 dc3 pm3 an3 cd3 ct3, is_arrows := PySem.W.fnOf "is_arrows" "is_arrows" (defArgs s_is_arrows) (defBody s_is_arrows) (defScope s_is_arrows) .none kV4 dc4 pm4 an4 cd4 ct4, is_goals := PySem.W.fnOf "is_goals" "is_goals" (defArgs s_is_goals) (defBody s_is_goals) (defScope s_is_goals) .none kV5 dc5 pm5 an5 cd5 ct5, check_signs := PySem.W.fnOf "check_signs" "check_signs" (defArgs s_check_signs) (defBody s_check_signs) (defScope s_check_signs) .none kV6 dc6 pm6 an6 cd6 ct6, Reader_init := PySem.W.fnOf "__init__" "Reader.__init__" (defArgs s_Reader_init) (defBody s_Reader_init) (defScope s_Reader_init) .none kV7 dc7 pm7 an7 cd7 ct7, Reader_signs := PySem.W.fnOf "signs" "Reader.signs" (defArgs s_Reader_signs) (defBody s_Reader_signs) (defScope s_Reader_signs) .none kV8 dc8 pm8 an8 cd8 ct8, Reader_arrows := PySem.W.fnOf "arrows" "Reader.arrows" (defArgs s_Reader_arrows) (defBody s_Reader_arrows) (defScope s_Reader_arrows) .none kV9 dc9 pm9 an9 cd9 ct9, Reader_ends := PySem.W.fnOf "ends" "Reader.ends" (defArgs s_Reader_ends) (defBody s_Reader_ends) (defScope s_Reader_ends) .none kV10 dc10 pm10 an10 cd10 ct10, Reader_len := PySem.W.fnOf "__len__" "Reader.__len__" (defArgs s_Reader_len) (defBody s_Reader_len) (defScope s_Reader_len) .none kV11 dc11 pm11 an11 cd11 ct11, Reader_repr := PySem.W.fnOf "__repr__" "Reader.__repr__" (defArgs s_Reader_repr) (defBody s_Reader_repr) (defScope s_Reader_repr) .none kV12 dc12 pm12 an12 cd12 ct12, Reader_eq := PySem.W.fnOf "__eq__" "Reader.__eq__" (defArgs s_Reader_eq) (defBody s_Reader_eq) (defScope s_Reader_eq) .none kV13 dc13 pm13 an13 cd13 ct13, l_barrel := PySem.W.fnOf "_law_barrel" "_law_barrel" (defArgs s_l_barrel) (defBody s_l_barrel) (defScope s_l_barrel) .none kV14 dc14 pm14 an14 cd14 ct14, l_dip := PySem.W.fnOf "_law_dip" "_law_dip" (defArgs s_l_dip) (defBody s_l_dip) (defScope s_l_dip) .none kV15 dc15 pm15 an15 cd15 ct15, l_one_of := PySem.W.fnOf "_law_one_of" "_law_one_of" (defArgs s_l_one_of) (defBody s_l_one_of) (defScope s_l_one_of) .none kV16 dc16 pm16 an16 cd16 ct16, l_arrows_for := PySem.W.fnOf "_law_arrows_for" "_law_arrows_for" (defArgs s_l_arrows_for) (defBody s_l_arrows_for) (defScope s_l_arrows_for) .none kV17 dc17 pm17 an17 cd17 ct17, l_ends_for := PySem.W.fnOf "_law_ends_for" "_law_ends_for" (defArgs s_l_ends_for) (defBody s_l_ends_for) (defScope s_l_ends_for) .none kV18 dc18 pm18 an18 cd18 ct18, l_is_count := PySem.W.fnOf "_law_is_count" "_law_is_count" (defArgs s_l_is_count) (defBody s_l_is_count) (defScope s_l_is_count) .none kV19 dc19 pm19 an19 cd19 ct19, l_any := PySem.W.fnOf "_law_any" "_law_any" (defArgs s_l_any) (defBody s_l_any) (defScope s_l_any) .none kV20 dc20 pm20 an20 cd20 ct20, l_twist := PySem.W.fnOf "_law_twist" "_law_twist" (defArgs s_l_twist) (defBody s_l_twist) (defScope s_l_twist) .none kV21 dc21 pm21 an21 cd21 ct21, l_word_of := PySem.W.fnOf "_law_word_of" "_law_word_of" (defArgs s_l_word_of) (defBody s_l_word_of) (defScope s_l_word_of) .none kV22 dc22 pm22 an22 cd22 ct22, l_came := PySem.W.fnOf "_law_came" "_law_came" (defArgs s_l_came) (defBody s_l_came) (defScope s_l_came) .none kV23 dc23 pm23 an23 cd23 ct23, l_is_table := PySem.W.fnOf "_law_is_table" "_law_is_table" (defArgs s_l_is_table) (defBody s_l_is_table) (defScope s_l_is_table) .none kV24 dc24 pm24 an24 cd24 ct24, l_are_ends := PySem.W.fnOf "_law_are_ends" "_law_are_ends" (defArgs s_l_are_ends) (defBody s_l_are_ends) (defScope s_l_are_ends) .none kV25 dc25 pm25 an25 cd25 ct25, l_due := PySem.W.fnOf "_law_due" "_law_due" (defArgs s_l_due) (defBody s_l_due) (defScope s_l_due) .none kV26 dc26 pm26 an26 cd26 ct26, l_shows := PySem.W.fnOf "_law_shows" "_law_shows" (defArgs s_l_shows) (defBody s_l_shows) (defScope s_l_shows) .none kV27 dc27 pm27 an27 cd27 ct27, l_one_right := PySem.W.fnOf "_law_one_right" "_law_one_right" (defArgs s_l_one_right) (defBody s_l_one_right) (defScope s_l_one_right) .none kV28 dc28 pm28 an28 (.ref cc_l_one_right) ct28, l_right := PySem.W.fnOf "_law_right" "_law_right" (defArgs s_l_right) (defBody s_l_right) (defScope s_l_right) .none kV29 dc29 pm29 an29 cd29 ct29, law := PySem.W.fnOf "law" "law" (defArgs s_law) (defBody s_law) (defScope s_law) .none kV30 dc30 pm30 an30 (.ref cc_law) ct30 }
  have T : Txt K mg A := {
    b_ArithmeticError := PySem.W.mg_none_of X G yb_ArithmeticError,
    b_ValueError := PySem.W.mg_none_of X G yb_ValueError,
    b_abs := PySem.W.mg_none_of X G yb_abs,
    b_all := PySem.W.mg_none_of X G yb_all,
    b_bool := PySem.W.mg_none_of X G yb_bool,
    b_divmod := PySem.W.mg_none_of X G yb_divmod,
    b_int := PySem.W.mg_none_of X G yb_int,
    b_isinstance := PySem.W.mg_none_of X G yb_isinstance,
    b_len := PySem.W.mg_none_of X G yb_len,
    b_list := PySem.W.mg_none_of X G yb_list,
    b_max := PySem.W.mg_none_of X G yb_max,
    b_min := PySem.W.mg_none_of X G yb_min,
    b_range := PySem.W.mg_none_of X G yb_range,
    b_repr := PySem.W.mg_none_of X G yb_repr,
    b_str := PySem.W.mg_none_of X G yb_str,
    b_tuple := PySem.W.mg_none_of X G yb_tuple,
    c_MOST_SIGNS := ⟨_, PySem.W.mg_of X G yc_MOST_SIGNS⟩,
    c_MOST_STANDS := ⟨_, PySem.W.mg_of X G yc_MOST_STANDS⟩,
    m_is_integer := PySem.W.mg_of X G a_is_integer,
    k_is_integer := k_is_integer,
    m_is_between := PySem.W.mg_of X G a_is_between,
    k_is_between := k_is_between,
    m_is_ascending := PySem.W.mg_of X G a_is_ascending,
    k_is_ascending := k_is_ascending,
    m_is_stands := PySem.W.mg_of X G a_is_stands,
    k_is_stands := k_is_stands,
    m_is_arrows := PySem.W.mg_of X G a_is_arrows,
    k_is_arrows := k_is_arrows,
    m_is_goals := PySem.W.mg_of X G a_is_goals,
    k_is_goals := k_is_goals,
    m_check_signs := PySem.W.mg_of X G a_check_signs,
    k_check_signs := k_check_signs,
    m_l_barrel := PySem.W.mg_of X G a_l_barrel,
    k_l_barrel := k_l_barrel,
    m_l_dip := PySem.W.mg_of X G a_l_dip,
    k_l_dip := k_l_dip,
    m_l_one_of := PySem.W.mg_of X G a_l_one_of,
    k_l_one_of := k_l_one_of,
    m_l_arrows_for := PySem.W.mg_of X G a_l_arrows_for,
    k_l_arrows_for := k_l_arrows_for,
    m_l_ends_for := PySem.W.mg_of X G a_l_ends_for,
    k_l_ends_for := k_l_ends_for,
    m_l_is_count := PySem.W.mg_of X G a_l_is_count,
    k_l_is_count := k_l_is_count,
    m_l_any := PySem.W.mg_of X G a_l_any,
    k_l_any := k_l_any,
    m_l_twist := PySem.W.mg_of X G a_l_twist,
    k_l_twist := k_l_twist,
    m_l_word_of := PySem.W.mg_of X G a_l_word_of,
    k_l_word_of := k_l_word_of,
    m_l_came := PySem.W.mg_of X G a_l_came,
    k_l_came := k_l_came,
    m_l_is_table := PySem.W.mg_of X G a_l_is_table,
    k_l_is_table := k_l_is_table,
    m_l_are_ends := PySem.W.mg_of X G a_l_are_ends,
    k_l_are_ends := k_l_are_ends,
    m_l_due := PySem.W.mg_of X G a_l_due,
    k_l_due := k_l_due,
    m_l_shows := PySem.W.mg_of X G a_l_shows,
    k_l_shows := k_l_shows,
    m_l_one_right := PySem.W.mg_of X G a_l_one_right,
    k_l_one_right := k_l_one_right,
    m_l_right := PySem.W.mg_of X G a_l_right,
    k_l_right := k_l_right,
    m_law := PySem.W.mg_of X G a_law,
    k_law := k_law,
    m_Reader := PySem.W.mg_of X G aC,
    cl := ⟨pg, hd, po, sa⟩,
    mk_Reader := ⟨mk, a_Reader_init, j_Reader_init, kc⟩,
    na_signs := n1,
    na_arrows := n2,
    na_ends := n3,
    p_Reader_signs := ⟨u1, v1, w1, _, x1⟩,
    p_Reader_arrows := ⟨u2, v2, w2, _, x2⟩,
    p_Reader_ends := ⟨u3, v3, w3, _, x3⟩,
    own_len := a_Reader_len, isf_len := j_Reader_len,
    t_ha := t_ha,
    t_hn := t_hn,
    t_tk := t_tk,
    t_mo := t_mo,
    own_repr := a_Reader_repr, isf_repr := j_Reader_repr,
    nb := nb,
    own_eq := a_Reader_eq, isf_eq := j_Reader_eq,
    own_ne := own_ne,
    nf_C := nf_C,
    kt_C := kt_C,
    nf_tuple := nf_tuple,
    kc_NoneType := kc_NoneType,
    kc_bool := kc_bool,
    kc_int := kc_int,
    kc_str := kc_str,
    kc_tuple := kc_tuple,
    kc_list := kc_list,
    kc_dict := kc_dict,
    mx_InvalidArrows := PySem.W.mg_of X G ymx_InvalidArrows,
    mx_InvalidEnds := PySem.W.mg_of X G ymx_InvalidEnds,
    mx_InvalidSigns := PySem.W.mg_of X G ymx_InvalidSigns,
    mx_NoAnswer := PySem.W.mg_of X G ymx_NoAnswer,
    mx_WrongValue := PySem.W.mg_of X G ymx_WrongValue,
    x_InvalidArrows := { gC := PySem.W.mg_of X G ymx_InvalidArrows, base := PySem.F.excBase_ValueError, stor := PySem.F.store_ValueError, ini := zInvalidArrows_ini, ovr := zInvalidArrows_ovr, tkr := zInvalidArrows_tkr, sa := zInvalidArrows_sa, ga := zInvalidArrows_ga, gg := zInvalidArrows_gg, noN := zInvalidArrows_noN, iC := zInvalidArrows_iC, tC := zInvalidArrows_tC, kC := zInvalidArrows_kC, exC := zInvalidArrows_exC, tyC := zInvalidArrows_tyC, hdC := zInvalidArrows_hdC, cls := zInvalidArrows_cls, clm := zInvalidArrows_clm, cln := t_hn, clt := t_tk, fn := ⟨_, _, _, _, _, _, _, _, _, _, _, _, _, _, _, zInvalidArrows_lk, zInvalidArrows_cd⟩ },
    x_InvalidEnds := { gC := PySem.W.mg_of X G ymx_InvalidEnds, base := PySem.F.excBase_ValueError, stor := PySem.F.store_ValueError, ini := zInvalidEnds_ini, ovr := zInvalidEnds_ovr, tkr := zInvalidEnds_tkr, sa := zInvalidEnds_sa, ga := zInvalidEnds_ga, gg := zInvalidEnds_gg, noN := zInvalidEnds_noN, iC := zInvalidEnds_iC, tC := zInvalidEnds_tC, kC := zInvalidEnds_kC, exC := zInvalidEnds_exC, tyC := zInvalidEnds_tyC, hdC := zInvalidEnds_hdC, cls := zInvalidEnds_cls, clm := zInvalidEnds_clm, cln := t_hn, clt := t_tk, fn := ⟨_, _, _, _, _, _, _, _, _, _, _, _, _, _, _, zInvalidEnds_lk, zInvalidEnds_cd⟩ },
    x_InvalidSigns := { gC := PySem.W.mg_of X G ymx_InvalidSigns, base := PySem.F.excBase_ValueError, stor := PySem.F.store_ValueError, ini := zInvalidSigns_ini, ovr := zInvalidSigns_ovr, tkr := zInvalidSigns_tkr, sa := zInvalidSigns_sa, ga := zInvalidSigns_ga, gg := zInvalidSigns_gg, noN := zInvalidSigns_noN, iC := zInvalidSigns_iC, tC := zInvalidSigns_tC, kC := zInvalidSigns_kC, exC := zInvalidSigns_exC, tyC := zInvalidSigns_tyC, hdC := zInvalidSigns_hdC, cls := zInvalidSigns_cls, clm := zInvalidSigns_clm, cln := t_hn, clt := t_tk, fn := ⟨_, _, _, _, _, _, _, _, _, _, _, _, _, _, _, zInvalidSigns_lk, zInvalidSigns_cd⟩ },
    kit_InvalidArrows_InvalidSigns := kit_InvalidArrows_InvalidSigns,
    kit_InvalidArrows_InvalidEnds := kit_InvalidArrows_InvalidEnds,
    kit_InvalidArrows_InvalidArrows := kit_InvalidArrows_InvalidArrows,
    kit_InvalidArrows_NoAnswer := kit_InvalidArrows_NoAnswer,
    kit_InvalidArrows_WrongValue := kit_InvalidArrows_WrongValue,
    kit_InvalidArrows_ValueError := kit_InvalidArrows_ValueError,
    kit_InvalidArrows_ArithmeticError := kit_InvalidArrows_ArithmeticError,
    exm_InvalidArrows := exm_InvalidArrows,
    kit_InvalidEnds_InvalidSigns := kit_InvalidEnds_InvalidSigns,
    kit_InvalidEnds_InvalidEnds := kit_InvalidEnds_InvalidEnds,
    kit_InvalidEnds_InvalidArrows := kit_InvalidEnds_InvalidArrows,
    kit_InvalidEnds_NoAnswer := kit_InvalidEnds_NoAnswer,
    kit_InvalidEnds_WrongValue := kit_InvalidEnds_WrongValue,
    kit_InvalidEnds_ValueError := kit_InvalidEnds_ValueError,
    kit_InvalidEnds_ArithmeticError := kit_InvalidEnds_ArithmeticError,
    exm_InvalidEnds := exm_InvalidEnds,
    kit_InvalidSigns_InvalidSigns := kit_InvalidSigns_InvalidSigns,
    kit_InvalidSigns_InvalidEnds := kit_InvalidSigns_InvalidEnds,
    kit_InvalidSigns_InvalidArrows := kit_InvalidSigns_InvalidArrows,
    kit_InvalidSigns_NoAnswer := kit_InvalidSigns_NoAnswer,
    kit_InvalidSigns_WrongValue := kit_InvalidSigns_WrongValue,
    kit_InvalidSigns_ValueError := kit_InvalidSigns_ValueError,
    kit_InvalidSigns_ArithmeticError := kit_InvalidSigns_ArithmeticError,
    exm_InvalidSigns := exm_InvalidSigns,
    ne_l_one_right_law := ne_l_one_right_law }
  have F_is_integer := fun_mk (st := s_is_integer) l_is_integer c_is_integer k_is_integer
  have B_is_integer := F_is_integer.binds (ps := p_is_integer) fun _ _ _ _ _ _ us hl => match us, hl with | [_], _ => rfl
  have F_is_between := fun_mk (st := s_is_between) l_is_between c_is_between k_is_between
  have B_is_between := F_is_between.binds (ps := p_is_between) fun _ _ _ _ _ _ us hl => match us, hl with | [_, _, _], _ => rfl
  have F_is_ascending := fun_mk (st := s_is_ascending) l_is_ascending c_is_ascending k_is_ascending
  have B_is_ascending := F_is_ascending.binds (ps := p_is_ascending) fun _ _ _ _ _ _ us hl => match us, hl with | [_], _ => rfl
  have F_is_stands := fun_mk (st := s_is_stands) l_is_stands c_is_stands k_is_stands
  have B_is_stands := F_is_stands.binds (ps := p_is_stands) fun _ _ _ _ _ _ us hl => match us, hl with | [_, _], _ => rfl
  have F_is_arrows := fun_mk (st := s_is_arrows) l_is_arrows c_is_arrows k_is_arrows
  have B_is_arrows := F_is_arrows.binds (ps := p_is_arrows) fun _ _ _ _ _ _ us hl => match us, hl with | [_, _], _ => rfl
  have F_is_goals := fun_mk (st := s_is_goals) l_is_goals c_is_goals k_is_goals
  have B_is_goals := F_is_goals.binds (ps := p_is_goals) fun _ _ _ _ _ _ us hl => match us, hl with | [_, _, _], _ => rfl
  have F_check_signs := fun_mk (st := s_check_signs) l_check_signs c_check_signs k_check_signs
  have B_check_signs := F_check_signs.binds (ps := p_check_signs) fun _ _ _ _ _ _ us hl => match us, hl with | [_], _ => rfl
  have F_Reader_init := fun_mk (st := s_Reader_init) l_Reader_init c_Reader_init k_Reader_init
  have B_Reader_init := F_Reader_init.binds (ps := p_Reader_init) fun _ _ _ _ _ _ us hl => match us, hl with | [_, _, _, _], _ => rfl
  have F_Reader_signs := fun_mk (st := s_Reader_signs) l_Reader_signs c_Reader_signs k_Reader_signs
  have B_Reader_signs := F_Reader_signs.binds (ps := p_Reader_signs) fun _ _ _ _ _ _ us hl => match us, hl with | [_], _ => rfl
  have F_Reader_arrows := fun_mk (st := s_Reader_arrows) l_Reader_arrows c_Reader_arrows k_Reader_arrows
  have B_Reader_arrows := F_Reader_arrows.binds (ps := p_Reader_arrows) fun _ _ _ _ _ _ us hl => match us, hl with | [_], _ => rfl
  have F_Reader_ends := fun_mk (st := s_Reader_ends) l_Reader_ends c_Reader_ends k_Reader_ends
  have B_Reader_ends := F_Reader_ends.binds (ps := p_Reader_ends) fun _ _ _ _ _ _ us hl => match us, hl with | [_], _ => rfl
  have F_Reader_len := fun_mk (st := s_Reader_len) l_Reader_len c_Reader_len k_Reader_len
  have B_Reader_len := F_Reader_len.binds (ps := p_Reader_len) fun _ _ _ _ _ _ us hl => match us, hl with | [_], _ => rfl
  have F_Reader_repr := fun_mk (st := s_Reader_repr) l_Reader_repr c_Reader_repr k_Reader_repr
  have B_Reader_repr := F_Reader_repr.binds (ps := p_Reader_repr) fun _ _ _ _ _ _ us hl => match us, hl with | [_], _ => rfl
  have F_Reader_eq := fun_mk (st := s_Reader_eq) l_Reader_eq c_Reader_eq k_Reader_eq
  have B_Reader_eq := F_Reader_eq.binds (ps := p_Reader_eq) fun _ _ _ _ _ _ us hl => match us, hl with | [_, _], _ => rfl
  have F_l_barrel := fun_mk (st := s_l_barrel) l_l_barrel c_l_barrel k_l_barrel
  have B_l_barrel := F_l_barrel.binds (ps := p_l_barrel) fun _ _ _ _ _ _ us hl => match us, hl with | [_, _], _ => rfl
  have F_l_dip := fun_mk (st := s_l_dip) l_l_dip c_l_dip k_l_dip
  have B_l_dip := F_l_dip.binds (ps := p_l_dip) fun _ _ _ _ _ _ us hl => match us, hl with | [_, _], _ => rfl
  have F_l_one_of := fun_mk (st := s_l_one_of) l_l_one_of c_l_one_of k_l_one_of
  have B_l_one_of := F_l_one_of.binds (ps := p_l_one_of) fun _ _ _ _ _ _ us hl => match us, hl with | [_, _], _ => rfl
  have F_l_arrows_for := fun_mk (st := s_l_arrows_for) l_l_arrows_for c_l_arrows_for k_l_arrows_for
  have B_l_arrows_for := F_l_arrows_for.binds (ps := p_l_arrows_for) fun _ _ _ _ _ _ us hl => match us, hl with | [_, _, _], _ => rfl
  have F_l_ends_for := fun_mk (st := s_l_ends_for) l_l_ends_for c_l_ends_for k_l_ends_for
  have B_l_ends_for := F_l_ends_for.binds (ps := p_l_ends_for) fun _ _ _ _ _ _ us hl => match us, hl with | [_, _], _ => rfl
  have F_l_is_count := fun_mk (st := s_l_is_count) l_l_is_count c_l_is_count k_l_is_count
  have B_l_is_count := F_l_is_count.binds (ps := p_l_is_count) fun _ _ _ _ _ _ us hl => match us, hl with | [_, _, _], _ => rfl
  have F_l_any := fun_mk (st := s_l_any) l_l_any c_l_any k_l_any
  have B_l_any := F_l_any.binds (ps := p_l_any) fun _ _ _ _ _ _ us hl => match us, hl with | [_], _ => rfl
  have F_l_twist := fun_mk (st := s_l_twist) l_l_twist c_l_twist k_l_twist
  have B_l_twist := F_l_twist.binds (ps := p_l_twist) fun _ _ _ _ _ _ us hl => match us, hl with | [_, _], _ => rfl
  have F_l_word_of := fun_mk (st := s_l_word_of) l_l_word_of c_l_word_of k_l_word_of
  have B_l_word_of := F_l_word_of.binds (ps := p_l_word_of) fun _ _ _ _ _ _ us hl => match us, hl with | [_], _ => rfl
  have F_l_came := fun_mk (st := s_l_came) l_l_came c_l_came k_l_came
  have B_l_came := F_l_came.binds (ps := p_l_came) fun _ _ _ _ _ _ us hl => match us, hl with | [_], _ => rfl
  have F_l_is_table := fun_mk (st := s_l_is_table) l_l_is_table c_l_is_table k_l_is_table
  have B_l_is_table := F_l_is_table.binds (ps := p_l_is_table) fun _ _ _ _ _ _ us hl => match us, hl with | [_, _], _ => rfl
  have F_l_are_ends := fun_mk (st := s_l_are_ends) l_l_are_ends c_l_are_ends k_l_are_ends
  have B_l_are_ends := F_l_are_ends.binds (ps := p_l_are_ends) fun _ _ _ _ _ _ us hl => match us, hl with | [_, _], _ => rfl
  have F_l_due := fun_mk (st := s_l_due) l_l_due c_l_due k_l_due
  have B_l_due := F_l_due.binds (ps := p_l_due) fun _ _ _ _ _ _ us hl => match us, hl with | [_, _, _], _ => rfl
  have F_l_shows := fun_mk (st := s_l_shows) l_l_shows c_l_shows k_l_shows
  have B_l_shows := F_l_shows.binds (ps := p_l_shows) fun _ _ _ _ _ _ us hl => match us, hl with | [_, _, _, _], _ => rfl
  have F_l_one_right : FunC K "_law_one_right" "_law_one_right" s_l_one_right g_l_one_right (PySem.W.fnOf "_law_one_right" "_law_one_right" (defArgs s_l_one_right) (defBody s_l_one_right) (defScope s_l_one_right) .none kV28 dc28 pm28 an28 (.ref cc_l_one_right) ct28) cc_l_one_right := ⟨⟨_, _, _, _, _, _, _, _, rfl, l_l_one_right, c_l_one_right⟩, k_l_one_right⟩
  have B_l_one_right := F_l_one_right.fn.binds (ps := p_l_one_right) fun _ _ _ _ _ _ us hl => match us, hl with | [_, _, _, _], _ => rfl
  have F_l_right := fun_mk (st := s_l_right) l_l_right c_l_right k_l_right
  have B_l_right := F_l_right.binds (ps := p_l_right) fun _ _ _ _ _ _ us hl => match us, hl with | [_], _ => rfl
  have F_law : FunC K "law" "law" s_law fa (PySem.W.fnOf "law" "law" (defArgs s_law) (defBody s_law) (defScope s_law) .none kV30 dc30 pm30 an30 (.ref cc_law) ct30) cc_law := ⟨⟨_, _, _, _, _, _, _, _, rfl, l_law, c_law⟩, k_law⟩
  have B_law := F_law.fn.binds (ps := p_law) fun _ _ _ _ _ _ us hl => match us, hl with | [_], _ => rfl
  have U : Funs K A fd := {
    F_is_integer := F_is_integer, b_is_integer := B_is_integer,
    F_is_between := F_is_between, b_is_between := B_is_between,
    F_is_ascending := F_is_ascending, b_is_ascending := B_is_ascending,
    F_is_stands := F_is_stands, b_is_stands := B_is_stands,
    F_is_arrows := F_is_arrows, b_is_arrows := B_is_arrows,
    F_is_goals := F_is_goals, b_is_goals := B_is_goals,
    F_check_signs := F_check_signs, b_check_signs := B_check_signs,
    F_Reader_init := F_Reader_init, b_Reader_init := B_Reader_init,
    F_Reader_signs := F_Reader_signs, b_Reader_signs := B_Reader_signs,
    F_Reader_arrows := F_Reader_arrows, b_Reader_arrows := B_Reader_arrows,
    F_Reader_ends := F_Reader_ends, b_Reader_ends := B_Reader_ends,
    F_Reader_len := F_Reader_len, b_Reader_len := B_Reader_len,
    F_Reader_repr := F_Reader_repr, b_Reader_repr := B_Reader_repr,
    F_Reader_eq := F_Reader_eq, b_Reader_eq := B_Reader_eq,
    F_l_barrel := F_l_barrel, b_l_barrel := B_l_barrel,
    F_l_dip := F_l_dip, b_l_dip := B_l_dip,
    F_l_one_of := F_l_one_of, b_l_one_of := B_l_one_of,
    F_l_arrows_for := F_l_arrows_for, b_l_arrows_for := B_l_arrows_for,
    F_l_ends_for := F_l_ends_for, b_l_ends_for := B_l_ends_for,
    F_l_is_count := F_l_is_count, b_l_is_count := B_l_is_count,
    F_l_any := F_l_any, b_l_any := B_l_any,
    F_l_twist := F_l_twist, b_l_twist := B_l_twist,
    F_l_word_of := F_l_word_of, b_l_word_of := B_l_word_of,
    F_l_came := F_l_came, b_l_came := B_l_came,
    F_l_is_table := F_l_is_table, b_l_is_table := B_l_is_table,
    F_l_are_ends := F_l_are_ends, b_l_are_ends := B_l_are_ends,
    F_l_due := F_l_due, b_l_due := B_l_due,
    F_l_shows := F_l_shows, b_l_shows := B_l_shows,
    F_l_one_right := F_l_one_right, b_l_one_right := B_l_one_right,
    F_l_right := F_l_right, b_l_right := B_l_right,
    F_law := F_law, b_law := B_law }
  refine ⟨codesOf A, PySem.W.fnOf "law" "law" (defArgs s_law) (defBody s_law) (defScope s_law) .none kV30 dc30 pm30 an30 (.ref cc_law) ct30, (List.forall_mem_cons.mpr ⟨hT tt_l_one_right (by simp), (List.forall_mem_cons.mpr ⟨hT tt_law (by simp), (fun _ h => nomatch h)⟩)⟩), (List.forall_mem_cons.mpr ⟨no_l_one_right, (List.forall_mem_cons.mpr ⟨no_law, (fun _ h => nomatch h)⟩)⟩), (List.forall_mem_cons.mpr ⟨PySem.W.codeHd_of_K X hd_l_one_right, (List.forall_mem_cons.mpr ⟨PySem.W.codeHd_of_K X hd_law, (fun _ h => nomatch h)⟩)⟩), fun s u => .of_eq rfl, fun base _ _ hB => FnOkG.weak (ok_law T U hB) law_of⟩
end K6
open PySem PySem.W PyProof.Rows
set_option maxRecDepth 100000 in
set_option maxHeartbeats 0 in
theorem PySem.Challenge.cw_rowreaders_k02_whole_readers_made_and_re_holds : PySem.Challenge.rw_rowreaders_k02_whole_readers_made_and_re.Holds := by
  w_on; o_law; k_head; (case hw => w_witness2)
  k_fill
  refine Rw.walkGT (l := PySem.Challenge.rw_rowreaders_k02_whole_readers_made_and_re) (n := 63) (k := 59) (x := "_law_script") (sp := K6.spLawC) rfl (by decide) rfl ⟨rfl, by decide, by decide⟩ ?F
  case F =>
    intro w mg fa h Y G hmg
    have KX := PySem.W.km_in_of Y
    have hT := PySem.W.km_tabs_of Y
    refine' K6.wrap_up KX (K6.all_mk (w := w) KX G hmg hT ?aC ?a_is_integer ?a_is_between ?a_is_ascending ?a_is_stands ?a_is_arrows ?a_is_goals ?a_check_signs ?a_Reader_init ?j_Reader_init ?a_Reader_len ?j_Reader_len ?a_Reader_repr ?j_Reader_repr ?a_Reader_eq ?j_Reader_eq ?a_l_barrel ?a_l_dip ?a_l_one_of ?a_l_arrows_for ?a_l_ends_for ?a_l_is_count ?a_l_any ?a_l_twist ?a_l_word_of ?a_l_came ?a_l_is_table ?a_l_are_ends ?a_l_due ?a_l_shows ?a_l_one_right ?a_l_right ?a_law ?u1 ?v1 ?w1 ?x1 ?u2 ?v2 ?w2 ?x2 ?u3 ?v3 ?w3 ?x3 ?l_is_integer ?c_is_integer ?k_is_integer ?l_is_between ?c_is_between ?k_is_between ?l_is_ascending ?c_is_ascending ?k_is_ascending ?l_is_stands ?c_is_stands ?k_is_stands ?l_is_arrows ?c_is_arrows ?k_is_arrows ?l_is_goals ?c_is_goals ?k_is_goals ?l_check_signs ?c_check_signs ?k_check_signs ?l_Reader_init ?c_Reader_init ?k_Reader_init ?l_Reader_signs ?c_Reader_signs ?k_Reader_signs ?l_Reader_arrows ?c_Reader_arrows ?k_Reader_arrows ?l_Reader_ends ?c_Reader_ends ?k_Reader_ends ?l_Reader_len ?c_Reader_len ?k_Reader_len ?l_Reader_repr ?c_Reader_repr ?k_Reader_repr ?l_Reader_eq ?c_Reader_eq ?k_Reader_eq ?l_l_barrel ?c_l_barrel ?k_l_barrel ?l_l_dip ?c_l_dip ?k_l_dip ?l_l_one_of ?c_l_one_of ?k_l_one_of ?l_l_arrows_for ?c_l_arrows_for ?k_l_arrows_for ?l_l_ends_for ?c_l_ends_for ?k_l_ends_for ?l_l_is_count ?c_l_is_count ?k_l_is_count ?l_l_any ?c_l_any ?k_l_any ?l_l_twist ?c_l_twist ?k_l_twist ?l_l_word_of ?c_l_word_of ?k_l_word_of ?l_l_came ?c_l_came ?k_l_came ?l_l_is_table ?c_l_is_table ?k_l_is_table ?l_l_are_ends ?c_l_are_ends ?k_l_are_ends ?l_l_due ?c_l_due ?k_l_due ?l_l_shows ?c_l_shows ?k_l_shows ?l_l_one_right ?c_l_one_right ?k_l_one_right ?l_l_right ?c_l_right ?k_l_right ?l_law ?c_law ?k_law ?pg ?hd ?po ?sa ?mk ?kc ?n1 ?n2 ?n3 ?yb_ArithmeticError ?yb_ValueError ?yb_abs ?yb_all ?yb_bool ?yb_divmod ?yb_int ?yb_isinstance ?yb_len ?yb_list ?yb_max ?yb_min ?yb_range ?yb_repr ?yb_str ?yb_tuple ?yc_MOST_SIGNS ?yc_MOST_STANDS ?t_ha ?t_hn ?t_tk ?t_mo ?nb ?own_ne ?nf_C ?kt_C ?nf_tuple ?kc_NoneType ?kc_bool ?kc_int ?kc_str ?kc_tuple ?kc_list ?kc_dict ?ymx_InvalidArrows ?ymx_InvalidEnds ?ymx_InvalidSigns ?ymx_NoAnswer ?ymx_WrongValue ?zInvalidArrows_ini ?zInvalidArrows_ovr ?zInvalidArrows_tkr ?zInvalidArrows_sa ?zInvalidArrows_ga ?zInvalidArrows_gg ?zInvalidArrows_noN ?zInvalidArrows_iC ?zInvalidArrows_tC ?zInvalidArrows_kC ?zInvalidArrows_exC ?zInvalidArrows_tyC ?zInvalidArrows_hdC ?zInvalidArrows_cls ?zInvalidArrows_clm ?zInvalidArrows_lk ?zInvalidArrows_cd ?zInvalidEnds_ini ?zInvalidEnds_ovr ?zInvalidEnds_tkr ?zInvalidEnds_sa ?zInvalidEnds_ga ?zInvalidEnds_gg ?zInvalidEnds_noN ?zInvalidEnds_iC ?zInvalidEnds_tC ?zInvalidEnds_kC ?zInvalidEnds_exC ?zInvalidEnds_tyC ?zInvalidEnds_hdC ?zInvalidEnds_cls ?zInvalidEnds_clm ?zInvalidEnds_lk ?zInvalidEnds_cd ?zInvalidSigns_ini ?zInvalidSigns_ovr ?zInvalidSigns_tkr ?zInvalidSigns_sa ?zInvalidSigns_ga ?zInvalidSigns_gg ?zInvalidSigns_noN ?zInvalidSigns_iC ?zInvalidSigns_tC ?zInvalidSigns_kC ?zInvalidSigns_exC ?zInvalidSigns_tyC ?zInvalidSigns_hdC ?zInvalidSigns_cls ?zInvalidSigns_clm ?zInvalidSigns_lk ?zInvalidSigns_cd ?kit_InvalidArrows_InvalidSigns ?kit_InvalidArrows_InvalidEnds ?kit_InvalidArrows_InvalidArrows ?kit_InvalidArrows_NoAnswer ?kit_InvalidArrows_WrongValue ?kit_InvalidArrows_ValueError ?kit_InvalidArrows_ArithmeticError ?exm_InvalidArrows ?kit_InvalidEnds_InvalidSigns ?kit_InvalidEnds_InvalidEnds ?kit_InvalidEnds_InvalidArrows ?kit_InvalidEnds_NoAnswer ?kit_InvalidEnds_WrongValue ?kit_InvalidEnds_ValueError ?kit_InvalidEnds_ArithmeticError ?exm_InvalidEnds ?kit_InvalidSigns_InvalidSigns ?kit_InvalidSigns_InvalidEnds ?kit_InvalidSigns_InvalidArrows ?kit_InvalidSigns_NoAnswer ?kit_InvalidSigns_WrongValue ?kit_InvalidSigns_ValueError ?kit_InvalidSigns_ArithmeticError ?exm_InvalidSigns ?ne_l_one_right_law ?hd_l_one_right ?hd_law ?no_l_one_right ?no_law)
    (case aC => k_is)
    (case a_is_integer => k_is)
    (case a_is_between => k_is)
    (case a_is_ascending => k_is)
    (case a_is_stands => k_is)
    (case a_is_arrows => k_is)
    (case a_is_goals => k_is)
    (case a_check_signs => k_is)
    (case a_Reader_init => k_is)
    (case j_Reader_init => k_is)
    (case a_Reader_len => k_is)
    (case j_Reader_len => k_is)
    (case a_Reader_repr => k_is)
    (case j_Reader_repr => k_is)
    (case a_Reader_eq => k_is)
    (case j_Reader_eq => k_is)
    (case a_l_barrel => k_is)
    (case a_l_dip => k_is)
    (case a_l_one_of => k_is)
    (case a_l_arrows_for => k_is)
    (case a_l_ends_for => k_is)
    (case a_l_is_count => k_is)
    (case a_l_any => k_is)
    (case a_l_twist => k_is)
    (case a_l_word_of => k_is)
    (case a_l_came => k_is)
    (case a_l_is_table => k_is)
    (case a_l_are_ends => k_is)
    (case a_l_due => k_is)
    (case a_l_shows => k_is)
    (case a_l_one_right => k_is)
    (case a_l_right => k_is)
    (case a_law => k_is)
    (case u1 => k_is)
    (case v1 => k_is)
    (case w1 => k_is)
    (case x1 => k_is)
    (case u2 => k_is)
    (case v2 => k_is)
    (case w2 => k_is)
    (case x2 => k_is)
    (case u3 => k_is)
    (case v3 => k_is)
    (case w3 => k_is)
    (case x3 => k_is)
    (case l_is_integer => k_is)
    (case c_is_integer => k_is)
    (case k_is_integer => k_is)
    (case l_is_between => k_is)
    (case c_is_between => k_is)
    (case k_is_between => k_is)
    (case l_is_ascending => k_is)
    (case c_is_ascending => k_is)
    (case k_is_ascending => k_is)
    (case l_is_stands => k_is)
    (case c_is_stands => k_is)
    (case k_is_stands => k_is)
    (case l_is_arrows => k_is)
    (case c_is_arrows => k_is)
    (case k_is_arrows => k_is)
    (case l_is_goals => k_is)
    (case c_is_goals => k_is)
    (case k_is_goals => k_is)
    (case l_check_signs => k_is)
    (case c_check_signs => k_is)
    (case k_check_signs => k_is)
    (case l_Reader_init => k_is)
    (case c_Reader_init => k_is)
    (case k_Reader_init => k_is)
    (case l_Reader_signs => k_is)
    (case c_Reader_signs => k_is)
    (case k_Reader_signs => k_is)
    (case l_Reader_arrows => k_is)
    (case c_Reader_arrows => k_is)
    (case k_Reader_arrows => k_is)
    (case l_Reader_ends => k_is)
    (case c_Reader_ends => k_is)
    (case k_Reader_ends => k_is)
    (case l_Reader_len => k_is)
    (case c_Reader_len => k_is)
    (case k_Reader_len => k_is)
    (case l_Reader_repr => k_is)
    (case c_Reader_repr => k_is)
    (case k_Reader_repr => k_is)
    (case l_Reader_eq => k_is)
    (case c_Reader_eq => k_is)
    (case k_Reader_eq => k_is)
    (case l_l_barrel => k_is)
    (case c_l_barrel => k_is)
    (case k_l_barrel => k_is)
    (case l_l_dip => k_is)
    (case c_l_dip => k_is)
    (case k_l_dip => k_is)
    (case l_l_one_of => k_is)
    (case c_l_one_of => k_is)
    (case k_l_one_of => k_is)
    (case l_l_arrows_for => k_is)
    (case c_l_arrows_for => k_is)
    (case k_l_arrows_for => k_is)
    (case l_l_ends_for => k_is)
    (case c_l_ends_for => k_is)
    (case k_l_ends_for => k_is)
    (case l_l_is_count => k_is)
    (case c_l_is_count => k_is)
    (case k_l_is_count => k_is)
    (case l_l_any => k_is)
    (case c_l_any => k_is)
    (case k_l_any => k_is)
    (case l_l_twist => k_is)
    (case c_l_twist => k_is)
    (case k_l_twist => k_is)
    (case l_l_word_of => k_is)
    (case c_l_word_of => k_is)
    (case k_l_word_of => k_is)
    (case l_l_came => k_is)
    (case c_l_came => k_is)
    (case k_l_came => k_is)
    (case l_l_is_table => k_is)
    (case c_l_is_table => k_is)
    (case k_l_is_table => k_is)
    (case l_l_are_ends => k_is)
    (case c_l_are_ends => k_is)
    (case k_l_are_ends => k_is)
    (case l_l_due => k_is)
    (case c_l_due => k_is)
    (case k_l_due => k_is)
    (case l_l_shows => k_is)
    (case c_l_shows => k_is)
    (case k_l_shows => k_is)
    (case l_l_one_right => k_is)
    (case c_l_one_right => k_is)
    (case k_l_one_right => k_is)
    (case l_l_right => k_is)
    (case c_l_right => k_is)
    (case k_l_right => k_is)
    (case l_law => k_is)
    (case c_law => k_is)
    (case k_law => k_is)
    (case pg => k_is)
    (case hd => k_is)
    (case po => k_is)
    (case sa => k_is)
    (case mk => k_is)
    (case kc => k_is)
    (case n1 => k_is)
    (case n2 => k_is)
    (case n3 => k_is)
    (case yb_ArithmeticError => k_is)
    (case yb_ValueError => k_is)
    (case yb_abs => k_is)
    (case yb_all => k_is)
    (case yb_bool => k_is)
    (case yb_divmod => k_is)
    (case yb_int => k_is)
    (case yb_isinstance => k_is)
    (case yb_len => k_is)
    (case yb_list => k_is)
    (case yb_max => k_is)
    (case yb_min => k_is)
    (case yb_range => k_is)
    (case yb_repr => k_is)
    (case yb_str => k_is)
    (case yb_tuple => k_is)
    (case yc_MOST_SIGNS => k_is)
    (case yc_MOST_STANDS => k_is)
    (case t_ha => k_is)
    (case t_hn => k_is)
    (case t_tk => k_is)
    (case t_mo => k_is)
    (case nb => k_is)
    (case own_ne => k_is)
    (case nf_C => first | kernel_rfl | k_is)
    (case kt_C => first | kernel_rfl | k_is)
    (case nf_tuple => first | kernel_rfl | k_is)
    (case kc_NoneType => first | kernel_rfl | k_is)
    (case kc_bool => first | kernel_rfl | k_is)
    (case kc_int => first | kernel_rfl | k_is)
    (case kc_str => first | kernel_rfl | k_is)
    (case kc_tuple => first | kernel_rfl | k_is)
    (case kc_list => first | kernel_rfl | k_is)
    (case kc_dict => first | kernel_rfl | k_is)
    (case ymx_InvalidArrows => k_is)
    (case ymx_InvalidEnds => k_is)
    (case ymx_InvalidSigns => k_is)
    (case ymx_NoAnswer => k_is)
    (case ymx_WrongValue => k_is)
    (case zInvalidArrows_ini => first | kernel_rfl | k_is)
    (case zInvalidArrows_ovr => first | kernel_rfl | k_is)
    (case zInvalidArrows_tkr => k_is)
    (case zInvalidArrows_sa => k_is)
    (case zInvalidArrows_ga => k_is)
    (case zInvalidArrows_gg => k_is)
    (case zInvalidArrows_noN => k_is)
    (case zInvalidArrows_iC => k_is)
    (case zInvalidArrows_tC => k_is)
    (case zInvalidArrows_kC => k_is)
    (case zInvalidArrows_exC => k_is)
    (case zInvalidArrows_tyC => k_is)
    (case zInvalidArrows_hdC => k_is)
    (case zInvalidArrows_cls => k_is)
    (case zInvalidArrows_clm => k_is)
    (case zInvalidArrows_lk => k_is)
    (case zInvalidArrows_cd => k_is)
    (case zInvalidEnds_ini => first | kernel_rfl | k_is)
    (case zInvalidEnds_ovr => first | kernel_rfl | k_is)
    (case zInvalidEnds_tkr => k_is)
    (case zInvalidEnds_sa => k_is)
    (case zInvalidEnds_ga => k_is)
    (case zInvalidEnds_gg => k_is)
    (case zInvalidEnds_noN => k_is)
    (case zInvalidEnds_iC => k_is)
    (case zInvalidEnds_tC => k_is)
    (case zInvalidEnds_kC => k_is)
    (case zInvalidEnds_exC => k_is)
    (case zInvalidEnds_tyC => k_is)
    (case zInvalidEnds_hdC => k_is)
    (case zInvalidEnds_cls => k_is)
    (case zInvalidEnds_clm => k_is)
    (case zInvalidEnds_lk => k_is)
    (case zInvalidEnds_cd => k_is)
    (case zInvalidSigns_ini => first | kernel_rfl | k_is)
    (case zInvalidSigns_ovr => first | kernel_rfl | k_is)
    (case zInvalidSigns_tkr => k_is)
    (case zInvalidSigns_sa => k_is)
    (case zInvalidSigns_ga => k_is)
    (case zInvalidSigns_gg => k_is)
    (case zInvalidSigns_noN => k_is)
    (case zInvalidSigns_iC => k_is)
    (case zInvalidSigns_tC => k_is)
    (case zInvalidSigns_kC => k_is)
    (case zInvalidSigns_exC => k_is)
    (case zInvalidSigns_tyC => k_is)
    (case zInvalidSigns_hdC => k_is)
    (case zInvalidSigns_cls => k_is)
    (case zInvalidSigns_clm => k_is)
    (case zInvalidSigns_lk => k_is)
    (case zInvalidSigns_cd => k_is)
    (case kit_InvalidArrows_InvalidSigns => first | kernel_rfl | k_is)
    (case kit_InvalidArrows_InvalidEnds => first | kernel_rfl | k_is)
    (case kit_InvalidArrows_InvalidArrows => first | kernel_rfl | k_is)
    (case kit_InvalidArrows_NoAnswer => first | kernel_rfl | k_is)
    (case kit_InvalidArrows_WrongValue => first | kernel_rfl | k_is)
    (case kit_InvalidArrows_ValueError => first | kernel_rfl | k_is)
    (case kit_InvalidArrows_ArithmeticError => first | kernel_rfl | k_is)
    (case exm_InvalidArrows => first | kernel_rfl | k_is)
    (case kit_InvalidEnds_InvalidSigns => first | kernel_rfl | k_is)
    (case kit_InvalidEnds_InvalidEnds => first | kernel_rfl | k_is)
    (case kit_InvalidEnds_InvalidArrows => first | kernel_rfl | k_is)
    (case kit_InvalidEnds_NoAnswer => first | kernel_rfl | k_is)
    (case kit_InvalidEnds_WrongValue => first | kernel_rfl | k_is)
    (case kit_InvalidEnds_ValueError => first | kernel_rfl | k_is)
    (case kit_InvalidEnds_ArithmeticError => first | kernel_rfl | k_is)
    (case exm_InvalidEnds => first | kernel_rfl | k_is)
    (case kit_InvalidSigns_InvalidSigns => first | kernel_rfl | k_is)
    (case kit_InvalidSigns_InvalidEnds => first | kernel_rfl | k_is)
    (case kit_InvalidSigns_InvalidArrows => first | kernel_rfl | k_is)
    (case kit_InvalidSigns_NoAnswer => first | kernel_rfl | k_is)
    (case kit_InvalidSigns_WrongValue => first | kernel_rfl | k_is)
    (case kit_InvalidSigns_ValueError => first | kernel_rfl | k_is)
    (case kit_InvalidSigns_ArithmeticError => first | kernel_rfl | k_is)
    (case exm_InvalidSigns => first | kernel_rfl | k_is)
    (case ne_l_one_right_law => decide)
    (case hd_l_one_right => first | kernel_rfl | k_is)
    (case hd_law => first | kernel_rfl | k_is)
    (case no_l_one_right => first | kernel_rfl | k_is)
    (case no_law => first | kernel_rfl | k_is)

