import PyProof.Rows.All
import Wide.All
import OpenK.AllK
import Wide.FinOn
import PyProof.EqAt
import PyProof.EqKinds
import PyProof.TupleCall
import HandS.ForMost
import HandS.Property
import HandS.IsInst
import HandS.Replace
import HandS.Evl
import HandS.FStrTup
import PyProof.ListStr
import HandS.Codes
import HandS.Conv
import HandS.Deep
import HandS.NamedTupSort
import HandS.MakeKwOnly
import PyProof.InstNe
import HandS.Zip
import HandS.DictSub
import HandS.Small
import KE.GoesEnum
import PyProof.StrBlock2
import PyProof.StrBlockL
import PyProof.Rows.StrStep
import HandS.Text
import PyProof.StrLawsRepr
import PySem.Challenge.RW_rowreaders_k56_whole_written_rows
set_option Elab.async false
set_option linter.all false
set_option maxRecDepth 100000
set_option maxHeartbeats 2000000
/-! rules of our own beside the hand layer's: calls by keywords alone, len of an own instance, repr of data, defs that are entered where no repr is under way -/
namespace Rw
open PySem PySem.Spec PyProof.Rows L2
section
variable {X : Cx} {CX : CXT} {k : Nat} {f C : Addr} {fd : FuncData} {ps ks : List Str} {sp : Sp} {E : XK} {x : Str} {p pos : Pos} {kws : List Keyword} {tk : TA} {ta : TE} {e : Expr}
  {g : List Value → List Value → List Value} {gV : List V → List V → List V}

theorem pe_callK0 (F : FnOk X.prog X.w X.K X.mg X.base CX k f fd ps sp) (room : Room k X.A) (glob : Gl X x) (known : X.mg x = some (.ref f))
    (keep : PySem.W.keepIn X.K (.ref f) = true) (kb : KBinds X.K fd ps ks g gV) (pass : Passes CX X E) (hkw : PK X kws tk)
    (hall : (backToKw pos (keywordEach kws X.env)).all (·.1.isSome) = true := by rfl)
    (hks : (backToKw pos (keywordEach kws X.env)).filterMap (·.1) = ks := by rfl)
    (hdb : (x == ("__debug__" : Str)) = false := by decide)
    (hpl : ((backTo pos (starEach [] X.env)).any (·.1) || (backToKw pos (keywordEach kws X.env)).any (·.1.isNone)) = false := by rfl) :
    PE X (.Call (.Name x p) [] kws pos) (tCallK sp gV E tNil tk) := by
  constructor
  intro pins s σ H Q I h
  refine wpAny_Call_Name_kw (ld_glob I glob known ?_ hdb)
  refine PySem.W.callWith_KW0 (h₀ := X.base) I.ok.mod.kin keep hall
    (thn (hkw.run pos pins s σ H _ I h) fun ws s2 hh => ?_) hpl
  obtain ⟨zs, H2, I2, rz, q2⟩ := hh
  refine ⟨I2.kIn, ?_⟩
  rw [hks]
  exact run_fnk (us := []) F room kb pass I2 .nil rz q2

/-- len(o), o an instance of the class at C whose __len__ is the def at f -/
def rLenO (C : Addr) (sp : Sp) (E : XK) : List V → Hp → VK → Prop := fun vs H Q => ∃ a dx fs, vs = [.ref a] ∧ H a = some (.ins C dx fs) ∧
  sp [.ref a] H (fun v H2 => ∃ n : Nat, v = .int (n : Int) ∧ (n : Int) < 2 ^ 63 ∧ Q (.int (n : Int)) H2) E
theorem call_lenO (F : FnOk X.prog X.w X.K X.mg X.base CX k f fd ps sp) (room : Room (k + 1) X.A)
    (own : PySem.W.findIn X.K (.ref C) "__len__" = some (some (.ref f))) (isf : PySem.W.isFn X.K (.ref f) = true)
    (b : L2.Binds X.K fd ps []) (pass : Passes CX X E) : CallR X (.builtin "len") (rLenO C sp E) := by
  intro pins s σ H xs us Q I r h
  obtain ⟨a, dx, fs, rfl, ha, hsp⟩ := h
  obtain ⟨u, rfl⟩ : ∃ u, us = [u] := by
    cases r with
    | cons p q => cases q; exact ⟨_, rfl⟩
  have ru : u = Value.ref a := by
    cases r with
    | cons p q => exact p
  subst ru
  obtain ⟨mA, O, _, _, _, _⟩ := ins_get I.hok ha
  obtain ⟨od, J, _⟩ := O.look
  obtain ⟨m, hF⟩ := I.fr
  refine PySem.W.len_K hF I.ok.mod.kin J own isf ?_
  have hl := F.len _ _ _ _ hsp
  refine wpAny_call (codeAny_mono (F.run X.A.in1 X.stack s H ⟨[.ref a], []⟩ [.ref a] [.ref a] _ E room.in1 I.env0.in1 (by
    have := b s [.ref a] I.kIn (by simpa using hl)
    simpa using this) (.cons rfl .nil) hsp) fun r s' hq => ?_)
  cases r with
  | error e => exact pass pins σ H s e s' I hq
  | ok fl =>
    cases fl with
    | ret w =>
      obtain ⟨z, H', I', rz, n, ez, hn, hQ⟩ := I.after hq
      subst ez
      obtain ⟨t, rfl⟩ := rz
      refine ⟨⟨Int.natCast_nonneg n, hn⟩, ?_⟩
      exact ⟨.int n, H', I'.tok _, ⟨_, rfl⟩, hQ⟩
    | next => exact False.elim hq
    | brk => exact False.elim hq
    | cont => exact False.elim hq

mutual
theorem noDict {K : PySem.W.Frag} {H : Hp} : ∀ (d : PyData) (v : V), Dp K H v d → d.hasDict = false
  | .none, _, _ => by simp only [PyData.hasDict]
  | .bool _, _, _ => by simp only [PyData.hasDict]
  | .int _, _, _ => by simp only [PyData.hasDict]
  | .str _, _, _ => by simp only [PyData.hasDict]
  | .list ds, _, h => by
    cases h with
    | lst _ a => simp only [PyData.hasDict]; exact noDicts ds _ a
  | .tuple ds, _, h => by
    cases h with
    | tup _ a => simp only [PyData.hasDict]; exact noDicts ds _ a
  | .dict _, _, h => by cases h
theorem noDicts {K : PySem.W.Frag} {H : Hp} : ∀ (ds : List PyData) (vs : List V), DpAll K H vs ds → PyData.hasDictAll ds = false
  | [], _, _ => by simp only [PyData.hasDictAll]
  | d :: ds, _, h => by
    cases h with
    | cons a b => simp only [PyData.hasDictAll, noDict d _ a, noDicts ds _ b, Bool.or_false]
end

/-- repr(x), x a list or a tuple of data, where no repr is under way -/
def rReprD (K : PySem.W.Frag) : List V → Hp → VK → Prop := fun vs H Q => ∃ a d, vs = [.ref a] ∧ Dp K H (.ref a) d ∧ d.showable = true ∧ d.depth ≤ 10 ∧ d.shown.length ≤ sizeLine ∧ Q (.str d.shown) H
theorem call_reprD (hg : X.A.guards = some []) (hr : Room k X.A) : CallR X (.builtin "repr") (rReprD X.K) := by
  intro pins s σ H xs us Q I r h
  obtain ⟨a, d, rfl, hd, hs, hdep, hsz, hQ⟩ := h
  obtain ⟨u, rfl⟩ : ∃ u, us = [u] := by
    cases r with
    | cons p q => cases q; exact ⟨_, rfl⟩
  have ru : u = Value.ref a := by
    cases r with
    | cons p q => exact p
  subst ru
  obtain ⟨as, R⟩ := Dp.reads I d _ _ hd rfl
  have hu := hr.units
  refine repr_of_reads' R hs (PyData.noDict_hsm (noDict d _ hd)) hg (by omega) (fun b o e => e) (fun h' u tk hk => ?_) hsz
  exact ⟨.str d.shown, H, I.kept hk, ⟨_, rfl⟩, hQ⟩
end

/-! ### the layer's rules with the written part named -/
section
variable {X : Cx} {K : PySem.W.Frag} {tg l a : Expr} {tl ta : TE} {pos : Pos}
theorem w_ixL (h : X.K = K := by rfl) : IxR X (rIxL K) := by subst h; exact ix_list
theorem w_ixT (h : X.K = K := by rfl) : IxR X (rIxT K) := by subst h; exact ix_tup
def rLenK (K : PySem.W.Frag) : List V → Hp → VK → Prop := fun xs H Q => ∃ x n, xs = [x] ∧ LenV K x H n ∧ Q (.int n) H
theorem w_len (h : X.K = K := by rfl) : CallR X (.builtin "len") (rLenK K) := by subst h; exact call_len
theorem w_in (h : X.K = K := by rfl) : OpR X (compareOp .In) (rIn K false) := by subst h; exact op_in_seq
theorem w_notIn (h : X.K = K := by rfl) : OpR X (compareOp .NotIn) (rIn K true) := by subst h; exact op_notIn_seq
theorem w_sum (hc : X.calm = true) (h : X.K = K := by rfl) : CallR X (.builtin "sum") (rSum K) := by subst h; exact cr_sum hc
theorem w_all (hc : X.calm = true) (h : X.K = K := by rfl) : CallR X (.builtin "all") (rAll K) := by subst h; exact cr_all hc
theorem w_any (hc : X.calm = true) (h : X.K = K := by rfl) : CallR X (.builtin "any") (rAny K) := by subst h; exact cr_any hc
def rListK (K : PySem.W.Frag) : List V → Hp → VK → Prop := fun xs H Q => ∃ p ys, xs = [.ref p] ∧ (SqL K H p ys ∨ SqT K H p ys) ∧ ∀ l, H l = none → Q (.ref l) (upd H l (.lst ys))
theorem w_list (h : X.K = K := by rfl) : CallR X (.type "list") (rListK K) := by subst h; exact call_list_of
def rTupK (K : PySem.W.Frag) : List V → Hp → VK → Prop := fun xs H Q => ∃ p ys, xs = [.ref p] ∧ ((SqL K H p ys ∧ ∀ l, H l = none → Q (.ref l) (upd H l (.tup ys))) ∨ (SqT K H p ys ∧ Q (.ref p) H))
theorem w_tuple (h : X.K = K := by rfl) : CallR X (.type "tuple") (rTupK K) := by subst h; exact call_tuple_of
theorem w_isi (h : X.K = K := by rfl) : CallR X (.builtin "isinstance") (rIsi K) := by subst h; exact call_isi
theorem w_slL (h : X.K = K := by rfl) : SlR X (rSlL K) := by subst h; exact sl_list
theorem w_slT (h : X.K = K := by rfl) : SlR X (rSlT K) := by subst h; exact sl_tup
theorem w_piL (hl : PE X l tl) (h : X.K = K := by rfl) : PI X tg l (iList K tl) := by subst h; exact pi_list hl
theorem w_piT (hl : PE X l tl) (h : X.K = K := by rfl) : PI X tg l (iTup K tl) := by subst h; exact pi_tup hl
theorem w_tup {es : List Expr} {k : Nat} {t : TGs} {n : Nat} (hc : X.calm = true) (hs : PGs X es t) (h : X.K = K := by rfl)
    (hn : (assignEach es X.env).length = n := by rfl) (hst : (assignEach es X.env).findIdx? (·.1) = none := by rfl) : PG X (.Tuple es k pos) (gTup K n t) := by subst h; exact pg_tup hc hs hn hst
def tTruK (K : PySem.W.Frag) (ta : TE) : TT := fun σ H Q => ta σ H fun x H' => ∃ k, TruV K x H' k ∧ Q k H'
theorem w_truth (ha : PE X a ta) (he : ∀ whole, isTrue a X.env whole = (do let v ← whole; standAt a.pos; holding [v] (truthy v))) (h : X.K = K := by rfl) : PT X a (tTruK K ta) := by subst h; exact pt_truth ha he
theorem w_eqD (hu : X.A.units + 64 < cLine) (h : X.K = K := by rfl) : OpR X (compareOp .Eq) (rEqD K) := by subst h; exact op_eqD hu
theorem w_neD (hu : X.A.units + 64 < cLine) (h : X.K = K := by rfl) : OpR X (compareOp .NotEq) (rNeD K) := by subst h; exact op_neD hu
theorem w_reprD {k : Nat} (hg : X.A.guards = some []) (hr : Room k X.A) (h : X.K = K := by rfl) : CallR X (.builtin "repr") (rReprD K) := by subst h; exact call_reprD hg hr
end
/-! ### a def that is entered where no repr is under way -/
structure FnOkG (P : Program) (w : World) (K : PySem.W.Frag) (mg : Str → Option Value) (base : Heap) (k : Nat) (f : Addr) (fd : FuncData) (ps : List Str) (sp : Sp) : Prop where
  len : ∀ vs H Q E, sp vs H Q E → vs.length = ps.length
  run : ∀ (A : Around) (outer : List Env) (s : Shared) (H : Hp) (args : Args) (us : List Value) (vs : List V) (Q : VK) (E : XK), A.guards = some [] → Room k A →
    Env0 P w K mg base A outer s H → BindsTo s fd args (ps.zip us) → Vals vs us → sp vs H Q E → codeAny (model P w) A (.call (.ref f) args) (CR CX0 outer P w H s Q E) s
section
variable {P : Program} {w : World} {K : PySem.W.Frag} {mg : Str → Option Value} {base : Heap} {f : Addr} {fd : FuncData} {N ps : List Str} {k : Nat} {sp : Sp} {x qual : Str} {st : Stmt}
theorem okG (F : Fun K x qual st f fd) (S : FnScope N ps (defScope st)) (len : ∀ vs H Q E, sp vs H Q E → vs.length = ps.length)
    (hbody : ∀ (cdv : Value) (A : Around) (outer : List Env) (s : Shared) (H : Hp) (vs : List V) (Q : VK) (E : XK), A.guards = some [] →
      Room k (A.deeper (envOfC qual (defScope st) s.heap.objs.size f cdv)) → sp vs H Q E →
      ∃ t, PSs (cxOf CX0 P w K mg base N qual (defScope st) f cdv A outer s H E).nox (defBody st) t ∧ t { nx := fun _ H' => Q .non H', rt := Q } (start N vs) H) :
    FnOkG P w K mg base (k + 1) f fd ps sp := by
  obtain ⟨oc, od, kV, doc, pm, an, cdv, ct, osl, rfl, lk, hcd⟩ := F.ex
  refine ⟨len, fun A outer s H args us vs Q E hg hr e0 hb r hsp => ?_⟩
  have hl := len _ _ _ _ hsp
  have inn : K.In s.heap := e0.mod.kin.keeps (fun b o e => (e0.bs b o e).1)
  have nolim : s.heap.NoLimit := e0.mod.nolimit.keeps (fun b o e => (e0.bs b o e).1)
  have kinds : ∀ y ∈ ps.zip us, (defScope st).names.lookup y.1 = some .local ∨
      ((defScope st).names.lookup y.1 = some .cell ∧ ((cellsFrom (s.heap.objs.size + 1) (defScope st).names []).lookup y.1).isSome = true) := by
    rintro ⟨n, v⟩ hy
    rcases S.par n (List.of_mem_zip hy).1 with q | q
    · exact .inl q
    · exact .inr ⟨q, PySem.W.cellsFrom_some _ _ _ (.inl q)⟩
  refine codeAny_call_function hr.depth (inn _ _ lk) rfl S.co S.gen rfl (PySem.W.codeRec_of inn hcd) (hb _ _ _ _ ?_)
  refine wpAny_newFunctionEnv_cells S.kind kinds (fun env he s1 x => ?_)
  subst he
  refine ⟨nolim.keeps x.toInCall.keep, codeAny_func ?_⟩
  obtain ⟨t, ht, hq⟩ := hbody cdv A outer s H vs Q E hg (hr.deeper _) hsp
  have I := inv_start (CX := CX0) (P := P) (w := w) (K := K) (mg := mg) (base := base) (qual := qual) (f := f) (cd := cdv) (E := E) S hr.hd e0 hl r x
  refine wpAny_mono (ht.nox.run [] s1 (start N vs) H _ I hq) (fun fl s' hs => ?_) (fun e s' hs => hs)
  cases fl with
  | ret u =>
    obtain ⟨v, σ', H', J, rv, q⟩ := hs
    exact ⟨v, H', J.os, J.bare, J.base, J.hok, rv, q⟩
  | next =>
    obtain ⟨σ', H', J, q⟩ := hs
    exact ⟨V.non, H', J.os, J.bare, J.base, J.hok, rfl, q⟩
  | brk =>
    obtain ⟨_, _, _, q⟩ := hs
    exact False.elim q
  | cont =>
    obtain ⟨_, _, _, q⟩ := hs
    exact False.elim q
end
section
variable {X : Cx} {k : Nat} {f : Addr} {fd : FuncData} {ps : List Str} {sp : Sp} {x : Str} {p pos : Pos} {e : Expr} {es : List Expr} {t : TA}
theorem pe_callG (F : FnOkG X.prog X.w X.K X.mg X.base k f fd ps sp) (hgd : X.A.guards = some []) (room : Room k X.A) (glob : Gl X x) (known : X.mg x = some (.ref f))
    (keep : PySem.W.keepIn X.K (.ref f) = true) (b : L2.Binds X.K fd ps []) (ha : PA X (e :: es) t)
    (hdb : (x == ("__debug__" : Str)) = false := by decide) (he : starEach (e :: es) X.env = (false, eval e X.env) :: starEach es X.env := by rfl)
    (hpl : (backTo pos (starEach es X.env)).any (·.1) = false := by rfl) : PE X (.Call (.Name x p) (e :: es) [] pos) (tCall sp [] E0 t) := by
  constructor
  intro pins s σ H Q I h
  refine wpAny_Call_Name_kw (ld_glob I glob known ?_ hdb)
  refine PySem.W.callWith_K (h₀ := X.base) I.ok.mod.kin keep (thn (ha.run pos pins s σ H _ I h) fun us s1 hh => ?_) he hpl
  obtain ⟨vs, H1, I1, r, q⟩ := hh
  refine ⟨I1.kIn, ?_⟩
  have q : sp (vs ++ []) H1 Q E0 := q
  rw [List.append_nil] at q
  have hl : us.length = ps.length := by rw [← r.length]; exact F.len _ _ _ _ q
  refine wpAny_call (codeAny_mono (F.run X.A X.stack s1 H1 ⟨us, []⟩ us vs Q E0 hgd room I1.env0 (by
    have := b s1 us I1.kIn (by simpa using hl)
    simpa using this) r q) fun r s' hq => ?_)
  cases r with
  | error e => exact False.elim hq
  | ok fl =>
    cases fl with
    | ret u => exact I1.after hq
    | next => exact False.elim hq
    | brk => exact False.elim hq
    | cont => exact False.elim hq
end

/-! ### the law's call from above, for such a def -/
section
variable {P : Program} {w : World} {K : PySem.W.Frag} {mg mb : Str → Option Value} {k : Nat} {fa a : Addr} {fd : FuncData} {x : Str} {sp : Sp} {s1 : Shared} {vs : List Value} {ns : List Int}
abbrev Fin1 (s1 : Shared) (r : Result) (s' : Shared) : Prop := r = .ok (.ret (.bool true)) ∧ PySem.OldK s1.heap s'.heap ∧ s'.os = s1.os ∧ AllBare s'.gens
theorem callG_core (KX : K.In s1.heap) (nsg : s1.heap.Ns mainGlobals mg) (nsb : s1.heap.Ns builtinsNs mb) (boot : ∀ x : Str, x ≠ "__name__" → mb x = bootBuiltins x)
    (lim : s1.heap.NoLimit) (noGens : s1.gens = #[]) (obj : s1.heap.get? a = some { cls := .type "list", data := .seq vs.toArray }) (room : Room k callerA)
    (F : ∀ base : Heap, K.In base → base.Ns mainGlobals mg → FnOkG P w K mg base k fa fd [x] sp) (bind : ∀ (s : Shared) (u : Value), BindsTo s fd ⟨[u], []⟩ [(x, u)])
    (H : Hp) (only : Only H) (hsp : sp [.ref a] H (fun v _ => v = .bl true) fun _ _ _ => False) (ok : HOk P w H s1.heap) (onlyA : ∀ b, H b ≠ none → b = a) (outK : H a ≠ none → K.lookup a = none) :
    codeAny (model P w) callerA (.call (.ref fa) ⟨[.ref a], []⟩) (Fin1 s1) s1 := by
  have keepsB : ∀ {b : Addr} {o : Obj}, s1.heap.get? b = some o → H b = none → (hidT s1.heap H).get? b = some o := fun e n => hidT_get e n
  have isA : ∀ {b : Addr} {u : HO}, H b = some u → b = a := fun {b u} q => onlyA b (by rw [q]; simp)
  have dictNo : ∀ {b : Addr} {o : Obj} {es : Array DictEntry} {ep : Nat}, s1.heap.get? b = some o → o.data = .dict es ep → H b = none := by
    intro b o es ep e d
    cases q : H b with
    | none => rfl
    | some u =>
      have z := isA q
      subst z
      rw [obj] at e
      cases e
      exact absurd (show Data.seq vs.toArray _ = Data.dict es ep from d) (by intro y; cases y)
  have nsK : ∀ {b : Addr} {m : Str → Option Value}, s1.heap.Ns b m → (hidT s1.heap H).Ns b m := by
    rintro b m ⟨o, es, ep, e, d, r⟩
    exact ⟨o, es, ep, keepsB e (dictNo e d), d, r⟩
  have inB : K.In (hidT s1.heap H) := by
    intro b o e
    refine keepsB (KX b o e) ?_
    cases q : H b with
    | none => rfl
    | some u =>
      have z := isA q
      subst z
      rw [outK (by rw [q]; simp)] at e
      cases e
  have md : Mod K mg (hidT s1.heap H) := by
    obtain ⟨mc, h1, h2⟩ := lim
    exact ⟨inB, nsK nsg, ⟨mb, nsK nsb, boot⟩, ⟨mc, nsK h1, h2⟩⟩
  have e0 : Env0 P w K mg (hidT s1.heap H) callerA [] s1 H := by
    refine ⟨rfl, md, fun b o e => of_hidT e, Nat.le_of_eq (hidT_size _ _), trivial, ?_, ok, .of_eq noGens⟩
    intro b hb
    exact absurd (show b ∈ ([] : List Addr) from hb) (by simp)
  refine codeAny_mono ((F _ inB (nsK nsg)).run callerA [] s1 H ⟨[.ref a], []⟩ [.ref a] [.ref a] _ _ rfl room e0 (bind s1 (.ref a)) (.cons rfl .nil) hsp) ?_
  intro r s' h
  cases r with
  | error e => exact False.elim h
  | ok fl =>
    cases fl with
    | next => exact False.elim h
    | brk => exact False.elim h
    | cont => exact False.elim h
    | ret u =>
      obtain ⟨v, H', os, bare, un, ok', rv, q⟩ := h
      have q : v = .bl true := q
      subst q
      have ru : u = Value.bool true := rv
      subst ru
      refine ⟨rfl, PySem.OldK.of_keep (fun b o e => ?_), os, bare⟩
      cases q : H b with
      | none => exact un.keep b o e q (fun z => absurd (show b ∈ ([] : List Addr) from z) (by simp)) (by simp)
      | some u =>
        rcases only b with z | ⟨ob, xs, z⟩
        · rw [q] at z
          cases z
        · obtain ⟨e1, _⟩ := ok b _ z
          obtain ⟨e2, _⟩ := ok' b _ (un.frzs b ob _ z)
          rw [e] at e1
          cases e1
          exact e2
theorem callG (KX : K.In s1.heap) (nsg : s1.heap.Ns mainGlobals mg) (nsb : s1.heap.Ns builtinsNs mb) (boot : ∀ x : Str, x ≠ "__name__" → mb x = bootBuiltins x)
    (lim : s1.heap.NoLimit) (noGens : s1.gens = #[]) (obj : s1.heap.get? a = some { cls := .type "list", data := .seq vs.toArray }) (hi : IntsAre vs ns) (hl : ns.length ≤ sizeLine) (room : Room k callerA)
    (F : ∀ base : Heap, K.In base → base.Ns mainGlobals mg → FnOkG P w K mg base k fa fd [x] sp) (bind : ∀ (s : Shared) (u : Value), BindsTo s fd ⟨[u], []⟩ [(x, u)])
    (hsp : ∀ H : Hp, Only H → SqL K H a (ns.map V.int) → sp [.ref a] H (fun v _ => v = .bl true) fun _ _ _ => False) :
    codeAny (model P w) callerA (.call (.ref fa) ⟨[.ref a], []⟩) (Fin1 s1) s1 := by
  have rv := vals_ints hi
  have lenV := hi.length
  cases hk : K.lookup a with
  | some o =>
    have e := KX a o hk
    rw [obj] at e
    cases e
    have only : Only (fun _ => none) := fun _ => .inl rfl
    refine callG_core KX nsg nsb boot lim noGens obj room F bind (fun _ => none) only (hsp _ only ?_) (fun b u z => ?_) (fun b z => absurd rfl z) (fun z => absurd rfl z)
    · exact .inr ⟨_, vs.toArray, _, hk, rfl, rfl, rfl, by rw [List.size_toArray, lenV]; exact hl, by simpa using rv⟩
    · have z : (none : Option HO) = some u := z
      cases z
  | none =>
    have only : Only (fun b => if b = a then some (.frz { cls := .type "list", data := .seq vs.toArray } (.lst (ns.map V.int))) else none) := by
      intro b
      by_cases hb : b = a
      · exact .inr ⟨_, _, if_pos hb⟩
      · exact .inl (if_neg hb)
    refine callG_core KX nsg nsb boot lim noGens obj room F bind _ only (hsp _ only ?_) (fun b u z => ?_) (fun b z => ?_) (fun _ => hk)
    · exact .inl (.inr ⟨{ cls := .type "list", data := .seq vs.toArray }, if_pos rfl⟩)
    · by_cases hb : b = a
      · have z' := (if_pos hb).symm.trans z
        cases z'
        subst hb
        exact ⟨obj, by rw [List.length_map]; exact hl, vs, _, rv, obj⟩
      · have z' := (if_neg hb).symm.trans z
        cases z'
    · by_cases hb : b = a
      · exact hb
      · exact absurd (if_neg hb) z
theorem walkG {l : PySem.W.OpenLaw} {n k : Nat} {q : Program} {loose : List Str} {XP : (Str → Option Value) → Heap → Prop} {YP : World → Heap → Prop} {d : DefRec} {K : Params → PySem.W.Frag} {sp : PySem.W.Frag → Sp} {x : Str}
    (hn : l.most = some n) (hn2 : n ≤ sizeLine) (hdf : d.params.defaults = []) (room : Room k callerA) (hY : ∀ (w : World) (h : Heap), YP w h → (K w.params).In h)
    (F : ∀ (w : World) (mg : Str → Option Value) (fa : Addr) (h : Heap), (K w.params).In h → h.Ns mainGlobals mg → mg d.name = some (.ref fa) →
      ∃ fd : FuncData, (∀ (s : Shared) (u : Value), BindsTo s fd ⟨[u], []⟩ [(x, u)]) ∧
        ∀ base : Heap, (K w.params).In base → base.Ns mainGlobals mg → FnOkG l.prog w (K w.params) mg base k fa fd [x] (sp (K w.params)))
    (hsp : ∀ (K : PySem.W.Frag) (H : Hp) (a : Addr) (ns : List Int), ns.length ≤ n → Only H → SqL K H a (ns.map V.int) → sp K [.ref a] H (fun v _ => v = .bl true) fun _ _ _ => False) :
    PySem.W.WalkO q loose XP YP l.row.toRowW d [] (fun f vs => PySem.call f vs) := by
  refine Att.attach_call hn hdf (fun w s0 s1 mg mb fa o pm cd doc a vs ns G Y ho hd hcd hmg hobj hints hlen hg => ?_)
  have KX := hY w _ Y
  obtain ⟨fd, hb, hF⟩ := F w mg fa _ KX G.T.g hmg
  exact callG KX G.T.g G.T.b G.T.builtins G.T.nolimit hg hobj hints (Nat.le_trans hlen hn2) room hF hb (fun H hO hS => hsp (K w.params) H a ns hlen hO hS)
end
end Rw

set_option Elab.async false
set_option linter.all false
namespace Rw
open PySem PySem.Spec PyProof.Rows L2
section
variable {X : Cx} {K : PySem.W.Frag}
/-- an item read of a list, by a place that counts from its beginning -/
def rGetL (K : PySem.W.Frag) : V → V → Hp → VK → Prop := fun x y H Q => ∃ p xs i v, x = .ref p ∧ y = .int i ∧ SqL K H p xs ∧ 0 ≤ i ∧ atI xs i = some v ∧ Q v H
theorem w_getL (h : X.K = K := by rfl) : PGet X (rGetL K) := by
  subst h
  intro pins s σ H x y v u Q I rx ry h
  obtain ⟨p, xs, i, z, rfl, rfl, hq, h0, he, q⟩ := h
  cases rx
  obtain ⟨t, rfl⟩ := ry
  obtain ⟨its, r, pl, hz⟩ := I.list hq
  obtain ⟨j, h1, h2, h3, h4, h5⟩ := atI_get he
  obtain ⟨w, ew, rw'⟩ := r.get h2
  have hl := r.length
  have hn := line63
  have hj : i.toNat = j := by
    rw [seqIndex_of h0 h5] at h1
    exact Option.some.inj h1
  exact wpAny_getItem_list pl.isList h0 (by omega) (by rw [hj]; simpa using ew) ⟨z, H, I, rw', q⟩
/-- a walk along a list or a tuple -/
def iSeq (K : PySem.W.Frag) (tl : TE) : TI := fun σ H R => iList K tl σ H R ∨ iTup K tl σ H R
theorem w_piS {tg l : Expr} {tl : TE} (hl : PE X l tl) (h : X.K = K := by rfl) : PI X tg l (iSeq K tl) := by
  subst h
  refine ⟨fun pins s σ H R I q => ?_⟩
  rcases q with q | q
  · exact (pi_list hl).run pins s σ H R I q
  · exact (pi_tup hl).run pins s σ H R I q
end
end Rw

set_option Elab.async false
set_option linter.all false
set_option maxRecDepth 100000
set_option maxHeartbeats 2000000
namespace Rw
open PySem PySem.Spec PyProof.Rows L2
section
variable {X : Cx} {K : PySem.W.Frag}
def signV (z : Str) : List V := z.cps.toList.map fun c => V.str ⟨#[c]⟩
theorem vals_signs {z : Str} {acc : Array Value} (h : ItemsOf (SignAt z) acc z.cps.size) : Vals (signV z) acc.toList := by
  refine vals_of_at (by unfold signV; rw [List.length_map, Array.length_toList, Array.length_toList]; exact h.1.symm) fun j x u h1 h2 => ?_
  unfold signV at h1
  rw [List.getElem?_map] at h1
  rw [Array.getElem?_toList] at h2 h1
  obtain ⟨c, t, e, rfl⟩ := h.2 j u h2
  rw [e] at h1
  obtain rfl := Option.some.inj h1
  exact ⟨t, rfl⟩
/-- list(a text) -/
theorem call_listS (hc : X.calm = true) : CallR X (.type "list") (fun xs H Q => ∃ z : Str, xs = [.str z] ∧ z.length ≤ sizeLine ∧ ∀ p, H p = none → Q (.ref p) (upd H p (.lst (signV z)))) := by
  intro pins s σ H xs us Q I r h
  obtain ⟨z, rfl, hz, q⟩ := h
  obtain ⟨u, rfl⟩ : ∃ u, us = [u] := by
    cases r with
    | cons p q => cases q; exact ⟨_, rfl⟩
  obtain ⟨t, rfl⟩ : ∃ t, u = .str z t := by
    cases r with
    | cons p q => exact p
  refine PySem.call_list_str (I.ok.hd hc) z t (fun h' tk acc c' hk e' hi => ?_) hz
  refine ⟨.ref s.heap.objs.size, upd H s.heap.objs.size (.lst (signV z)), I.laid hk (Nat.le_refl _) (show ObjOk X.prog X.w _ _ _ (.lst (signV z)) from ⟨?_, acc.toList, c', vals_signs hi, ?_⟩), rfl, q _ (I.hok.fresh (Nat.le_refl _))⟩
  · unfold signV
    rw [List.length_map, Array.length_toList]
    exact hz
  · rw [Array.toArray_toList]; exact e'
theorem w_bm {o : Expr} {name : Str} {apos cpos : Pos} {e : Expr} {es : List Expr} {T id : String} {r : V → List V → Hp → VK → Prop} {to : TE} {t : TA} (pa : PlainAttrs T) (slot : Slot T name id) (hty : typeOf (.builtin id) = pure (.type "method_descriptor")) (hm : MtR X id r)
    (ho : PE X o to) (ha : PA X (e :: es) t) (h : X.K = K := by rfl)
    (hbase : attributeBase o name X.env (eval o X.env) = eval o X.env := by rfl)
    (hfew : ((backTo cpos (starEach (e :: es) X.env)).all (fun x => !x.1) && (backToKw cpos (keywordEach [] X.env)).all (fun x => x.1.isSome)
      && decide ((e :: es).length + ([] : List Keyword).length + (if ([] : List Keyword).isEmpty then 0 else 1) < 30)) = true := by rfl)
    (hline : (apos.endLine == cpos.line) = true := by rfl) (hs : starEach (e :: es) X.env = (false, eval e X.env) :: starEach es X.env := by rfl) (hplain : (backTo cpos (starEach es X.env)).any (·.1) = false := by rfl) :
    PE X (.Call (.Attribute o name apos) (e :: es) [] cpos) (tBM K T r to t) := by subst h; exact pe_bm pa slot hty hm ho ha hbase hfew hline hs hplain
theorem w_ixA (h : X.K = K := by rfl) : IxR X (rIx K) := by subst h; exact ix_seq
theorem w_maxL (hc : X.calm = true) (h : X.K = K := by rfl) : CallR X (.builtin "max") (rMax K) := by subst h; exact cr_max hc
end
end Rw

set_option Elab.async false
set_option linter.all false
set_option maxRecDepth 100000
set_option maxHeartbeats 2000000
/-! rules of our own: == and != by an own __eq__, of any outcome -/
namespace Rw
open PySem PySem.Spec PyProof.Rows L2
section
variable {prog : Program} {w : World} {A A₀ : Around} {E : Value → Shared → Prop} {s : Shared} {K : PySem.W.Frag} {x C L f : Addr} {h₀ : Heap} {m : Str → Option Value} {ox : Obj} {od : Option Obj} {b tb : Value}
theorem ne_call {Q : Value → Shared → Prop} (hu : A.in1.units < cLine) (X : K.In s.heap) (I : PySem.W.InstAt s.heap x ox C od) (hm : PySem.W.mroIn K C (.type "object") = some true)
    (hs : PySem.W.findIn K (.ref C) "__eq__" = some (some (.ref f))) (hf : PySem.W.isFn K (.ref f) = true)
    (h : wpAny (model prog w) A.in1 (call (.ref f) [.ref x, b]) (fun v s' => ∃ c, v = .bool c ∧ Q (.bool (!c)) s') E s) : wpAny (model prog w) A (call (.builtin "object.__ne__") [.ref x, b]) Q E s := by
  have iv : PySem.W.Looks (model prog w) s.heap (isInstance (.ref x) (.type "object")) true := I.type.andThen (PySem.W.looks_mroIn X hm)
  refine wpAny_call (codeAny_call_builtin PySem.F.cmp_object.ne.plain PySem.F.cmpEntry_ne (@PySem.W.check_slot (model prog w) _ _ _ "object.__ne__" "object" "__ne__" (.ref x) [b] [] _ (by decide +kernel) (by decide +kernel) iv (PySem.F.cmpArgs_ne _ _) ?_))
  unfold Builtin.«object.__ne__»
  repeat (first
    | with_reducible refine wpAny_cRoomFor hu ?_
    | (refine wpAny_bind (m := callSpecialIfBound? (.ref x) (Str.ofString "__eq__") [b])
        (PySem.W.ifBound_K X I hs hf (wpAny_mono h (fun r s' hr => by
          obtain ⟨c, rfl, hq⟩ := hr
          repeat (first | exact hq | exact wpAny_pure hq | exact wpAny_truthy_bool hq | (refine wpAny_bind (m := truthy (.bool _)) (wpAny_truthy_bool ?_)) | wp_step)) fun _ _ e => e)))
    | wp_step)
theorem cmpNe_K {Q : Value → Shared → Prop} (hu : A.units < cLine) (hu1 : A.in1.units < cLine) (F : Fr h₀ L s.heap m) (X₀ : K.In h₀) (I : PySem.W.InstAt s.heap x ox C od) (hb : PySem.W.Looks (model prog w) s.heap (typeOf b) tb) (hn : PySem.W.notFirst K C tb = true)
    (hne : PySem.W.findIn K (.ref C) "__ne__" = some (some (.builtin "object.__ne__"))) (hm : PySem.W.mroIn K C (.type "object") = some true)
    (hs : PySem.W.findIn K (.ref C) "__eq__" = some (some (.ref f))) (hf : PySem.W.isFn K (.ref f) = true)
    (h : wpAny (model prog w) A.in1 (call (.ref f) [.ref x, b]) (fun v s' => ∃ c, v = .bool c ∧ Q (.bool (!c)) s') E s) : wpAny (model prog w) A (richCompare .NotEq (.ref x) b) Q E s := by
  have X := X₀.keeps F.keep
  have sp : PySem.W.Looks (model prog w) s.heap (specialOf (.ref x) "__ne__") (some (.builtin "object.__ne__")) := I.type.andThen (PySem.W.looks_findIn X hne)
  have one : wpAny (model prog w) A (tryCompare (.ref x) "__ne__" b) (fun r s' => ∃ v, r = some v ∧ Q v s') E s := by
    unfold tryCompare
    refine wpAny_bind (NtL.csib sp rfl (ne_call hu1 X I hm hs hf (wpAny_mono h (fun v s' hv => ?_) fun _ _ e => e)))
    obtain ⟨c, rfl, q⟩ := hv
    exact ⟨c, rfl, wpAny_pure ⟨_, rfl, q⟩⟩
  unfold richCompare
  simp only [oneThing_ref]
  refine wpAny_holding (wpAny_bind (wpAny_cRoomFor hu ?_))
  refine wpAny_bind (I.type.here (wpAny_bind (hb.here ?_)))
  split
  · rename_i q
    have e : PySem.W.subIn K tb (.ref C) = some false := by
      rcases Bool.or_eq_true_iff.mp hn with e | e
      · rw [beq_iff_eq.mp e] at q; simp at q
      · exact beq_iff_eq.mp e
    refine wpAny_bind ((PySem.W.looks_subIn X e).here ?_)
    simp only [Bool.false_eq_true, if_false]
    refine wpAny_bind (wpAny_mono one (fun r s' z => ?_) fun _ _ e => e)
    obtain ⟨v, rfl, hq⟩ := z
    exact wpAny_pure hq
  · refine wpAny_bind (wpAny_pure ?_)
    simp only [Bool.false_eq_true, if_false]
    refine wpAny_bind (wpAny_mono one (fun r s' z => ?_) fun _ _ e => e)
    obtain ⟨v, rfl, hq⟩ := z
    exact wpAny_pure hq
end
section
variable {X : Cx} {CX : CXT} {k : Nat} {f C : Addr} {fd : FuncData} {ps : List Str} {sp : Sp} {E : XK}
/-- what may stand at the right of an own == -/
def Beside (K : PySem.W.Frag) (C : Addr) (y : V) (H : Hp) : Prop :=
  (∃ b D dy gs, y = .ref b ∧ H b = some (.ins D dy gs) ∧ PySem.W.notFirst K C (.ref D) = true) ∨ ∃ b xs, y = .ref b ∧ SqT K H b xs ∧ PySem.W.notFirst K C (.type "tuple") = true
theorem Beside.look {pins : List (Addr × Obj)} {σ : L2.St} {H : Hp} {s : Shared} {y : V} {u : Value} (I : Inv X pins σ H s) (r : RelV y u) (h : Beside X.K C y H) :
    ∃ b tb, u = .ref b ∧ PySem.W.Looks (model X.prog X.w) s.heap (typeOf u) tb ∧ PySem.W.notFirst X.K C tb = true := by
  rcases h with ⟨b, D, dy, gs, rfl, hb, hn⟩ | ⟨b, xs, rfl, hb, hn⟩
  · cases r
    obtain ⟨mB, J', _⟩ := ins_get I.hok hb
    obtain ⟨od', J', _⟩ := J'.look
    exact ⟨b, _, rfl, J'.type, hn⟩
  · cases r
    obtain ⟨its, r, ⟨o, ho, hc, _⟩, hs⟩ := I.tuple hb
    refine ⟨b, .type "tuple", rfl, ?_, hn⟩
    rw [← hc]
    exact (PySem.W.Looks.ld ho).andThen .now
def rEqO (C : Addr) (K : PySem.W.Frag) (sp : Sp) (E : XK) (neg : Bool) : R2 := fun x y H Q => ∃ a dx fs, x = .ref a ∧ H a = some (.ins C dx fs) ∧ Beside K C y H ∧ sp [x, y] H (fun v H2 => ∃ c, v = .bl c ∧ Q (.bl (if neg = true then !c else c)) H2) E
theorem op_eqO (F : FnOk X.prog X.w X.K X.mg X.base CX k f fd ps sp) (room : Room (k + 1) X.A)
    (hs : PySem.W.findIn X.K (.ref C) "__eq__" = some (some (.ref f))) (hf : PySem.W.isFn X.K (.ref f) = true) (hb : L2.Binds X.K fd ps []) (hx : Passes CX X E) : OpR X (compareOp .Eq) (rEqO C X.K sp E false) := by
  intro pins s σ H x y v u Q I rx ry h
  obtain ⟨a, dx, fs, rfl, ha, hbs, hsp⟩ := h
  cases rx
  obtain ⟨b, tb, rfl, lk, hn⟩ := hbs.look I ry
  obtain ⟨mA, J, _⟩ := ins_get I.hok ha
  obtain ⟨od, J, _⟩ := J.look
  obtain ⟨m, hF⟩ := I.fr
  refine PySem.W.cmp_K (op := .Eq) (tb := tb) room.units0 hF I.ok.mod.kin J lk hn hs hf ?_
  have hl := F.len _ _ _ _ hsp
  refine wpAny_call (codeAny_mono (F.run X.A X.stack s H ⟨[.ref a, .ref b], []⟩ [.ref a, .ref b] [.ref a, y] _ E (room.mono (Nat.le_succ k)) I.env0 (by
    have := hb s [.ref a, .ref b] I.kIn (by simpa using hl)
    simpa using this) (.cons rfl (.cons ry .nil)) hsp) fun r s' hq => ?_)
  cases r with
  | error e => exact hx pins σ H s e s' I hq
  | ok fl =>
    cases fl with
    | ret w =>
      obtain ⟨z, H', I', rz, c, ez, hQ⟩ := I.after hq
      subst ez
      cases rz
      exact ⟨.bl c, H', I', rfl, hQ⟩
    | next => exact False.elim hq
    | brk => exact False.elim hq
    | cont => exact False.elim hq
theorem op_neO (F : FnOk X.prog X.w X.K X.mg X.base CX k f fd ps sp) (room : Room (k + 1) X.A)
    (hs : PySem.W.findIn X.K (.ref C) "__eq__" = some (some (.ref f))) (hf : PySem.W.isFn X.K (.ref f) = true)
    (hne : PySem.W.findIn X.K (.ref C) "__ne__" = some (some (.builtin "object.__ne__"))) (hm : PySem.W.mroIn X.K C (.type "object") = some true)
    (hb : L2.Binds X.K fd ps []) (hx : Passes CX X E) : OpR X (compareOp .NotEq) (rEqO C X.K sp E true) := by
  intro pins s σ H x y v u Q I rx ry h
  obtain ⟨a, dx, fs, rfl, ha, hbs, hsp⟩ := h
  cases rx
  obtain ⟨b, tb, rfl, lk, hn⟩ := hbs.look I ry
  obtain ⟨mA, J, _⟩ := ins_get I.hok ha
  obtain ⟨od, J, _⟩ := J.look
  obtain ⟨m, hF⟩ := I.fr
  refine cmpNe_K (tb := tb) room.units0 room.in1.units0 hF I.ok.mod.kin J lk hn hne hm hs hf ?_
  have hl := F.len _ _ _ _ hsp
  refine wpAny_call (codeAny_mono (F.run X.A.in1 X.stack s H ⟨[.ref a, .ref b], []⟩ [.ref a, .ref b] [.ref a, y] _ E room.in1 I.env0.in1 (by
    have := hb s [.ref a, .ref b] I.kIn (by simpa using hl)
    simpa using this) (.cons rfl (.cons ry .nil)) hsp) fun r s' hq => ?_)
  cases r with
  | error e => exact hx pins σ H s e s' I hq
  | ok fl =>
    cases fl with
    | ret w =>
      obtain ⟨z, H', I', rz, c, ez, hQ⟩ := I.after hq
      subst ez
      cases rz
      exact ⟨c, rfl, .bl (!c), H', I', rfl, hQ⟩
    | next => exact False.elim hq
    | brk => exact False.elim hq
    | cont => exact False.elim hq
end
end Rw

set_option Elab.async false
set_option linter.all false
set_option maxRecDepth 100000
set_option maxHeartbeats 4000000
/-! rules of our own: zip of lists and tuples in any mix; bool of an own instance -/
namespace Rw
open PySem PySem.Spec PyProof.Rows L2
/-- a list, or a tuple -/
def SqB (K : PySem.W.Frag) (t : Bool) (H : Hp) (a : Addr) (xs : List V) : Prop := match t with
  | true => SqL K H a xs
  | false => SqT K H a xs
def ItB (t : Bool) (h : Heap) (i a : Addr) (k : Nat) : Prop := match t with
  | true => h.IsListIter i a k
  | false => h.IsTupleIter i a k
def IsB (t : Bool) (h : Heap) (a : Addr) (its : Array Value) : Prop := match t with
  | true => h.IsList a its
  | false => h.IsTuple a its
def obB (t : Bool) (a : Addr) : Obj := match t with
  | true => { cls := .type "list_iterator", data := .fields #[.ref a, .int 0 0] }
  | false => { cls := .type "tuple_iterator", data := .fields #[.ref a, .int 0 0] }
theorem ItB.at {t : Bool} {h h' : Heap} {i a : Addr} {k : Nat} (x : ItB t h i a k) (f : ∀ o, h.get? i = some o → h'.get? i = some o) : ItB t h' i a k := by
  cases t with
  | true => exact Heap.IsListIter.at (x : h.IsListIter i a k) f
  | false => exact Heap.IsTupleIter.at (x : h.IsTupleIter i a k) f
theorem ItB.ob {t : Bool} {h : Heap} {i a : Addr} {k : Nat} (x : ItB t h i a k) : ∃ o, h.get? i = some o ∧ ∀ v, o.data ≠ .cell v := by
  cases t with
  | true =>
    obtain ⟨o1, e1, _, d1⟩ := (x : h.IsListIter i a k)
    exact ⟨o1, e1, fun v q => by rw [d1] at q; cases q⟩
  | false =>
    obtain ⟨o1, e1, _, d1⟩ := (x : h.IsTupleIter i a k)
    exact ⟨o1, e1, fun v q => by rw [d1] at q; cases q⟩
theorem drB (t : Bool) {prog : Program} {w : World} {A : Around} (hh : A.handled = none) (it l : Addr) (hne : l ≠ it) (items : Array Value) :
    Draws prog w A it [it, l] items.size (fun i v => items[i]? = some v) (fun i h => ItB t h it l i ∧ IsB t h l items) := by
  cases t with
  | true => exact Draws.list hh it l hne items
  | false => exact Draws.tuple hh it l hne items
theorem beB (t : Bool) (l : Addr) (items : Array Value) : Begins (.ref l) (obB t l) fun h => IsB t h l items := by
  cases t with
  | true => exact begins_list l items
  | false => exact begins_tuple l items
theorem itB0 (t : Bool) {h : Heap} {i l : Addr} (e : h.get? i = some (obB t l)) : ItB t h i l 0 := by
  cases t with
  | true => exact ⟨_, e, rfl, rfl⟩
  | false => exact ⟨_, e, rfl, rfl⟩
theorem Inv_sqB {X : Cx} {pins : List (Addr × Obj)} {σ : L2.St} {H : Hp} {s : Shared} (I : Inv X pins σ H s) {t : Bool} {a : Addr} {xs : List V} (h : SqB X.K t H a xs) :
    ∃ its : List Value, Vals xs its ∧ IsB t s.heap a its.toArray ∧ a < s.heap.objs.size := by
  cases t with
  | true =>
    obtain ⟨its, rv, p, _⟩ := I.list h
    exact ⟨its, rv, p.isList, p.lt⟩
  | false =>
    obtain ⟨its, rv, p, _⟩ := I.tuple h
    obtain ⟨o1, ho1, _⟩ := id p
    exact ⟨its, rv, p, Heap.lt_size ho1⟩
theorem Inv_injB {X : Cx} {pins : List (Addr × Obj)} {σ : L2.St} {H : Hp} {s : Shared} (I : Inv X pins σ H s) {t : Bool} {a : Addr} {xs ys : List V} (h : SqB X.K t H a xs) (h' : SqB X.K t H a ys) : xs = ys := by
  cases t with
  | true => exact I.list_inj h h'
  | false => exact I.tuple_inj h h'
/-- a and b as they stand at each turn, the items in new pairs -/
def ItzM (K : PySem.W.Frag) (t1 t2 : Bool) (a b : Addr) : It :=
  ⟨fun i H => ∃ (xs ys : List V) (x y : V), SqB K t1 H a xs ∧ SqB K t2 H b ys ∧ xs[i]? = some x ∧ ys[i]? = some y,
    fun i H v H' => ∃ T x y, v = .ref T ∧ H T = none ∧ H' = upd H T (.tup [x, y]) ∧ (∀ xs, SqB K t1 H a xs → xs[i]? = some x) ∧ ∀ ys, SqB K t2 H b ys → ys[i]? = some y,
    fun i H => ∃ xs ys : List V, SqB K t1 H a xs ∧ SqB K t2 H b ys ∧ xs.length = i ∧ ys.length = i⟩
theorem turn_zipM {P : Program} {w : World} {K : PySem.W.Frag} {elts : List Expr} {kk : Nat} {tpos : Pos} {t1 t2 : Bool} {a b z TI TO i1 i2 : Addr} (D : ZipSep2 z TI TO i1 i2 [i1, a] [i2, b]) (n1 : a ≠ i1) (n2 : b ≠ i2) :
    Turn P w K (.Tuple elts kk tpos) (ItzM K t1 t2 a b) [z, TI, TO, i1, i2] z (fun i h => IsZip h z TI TO .none ∧ IsTupOf2 h TI (.ref i1) (.ref i2) ∧ (∃ x y, IsTupOf2 h TO x y) ∧ ItB t1 h i1 a i ∧ ItB t2 h i2 b i) where
  mem := by simp
  obj := fun i h st c hc => by
    obtain ⟨hz, hTI, ⟨x, y, hTO⟩, h1, h2⟩ := st
    have e' : c = z ∨ c = TI ∨ c = TO ∨ c = i1 ∨ c = i2 := by simpa using hc
    rcases e' with q | q | q | q | q
    · rw [q]; exact ⟨_, hz, fun v q => nomatch q⟩
    · rw [q]; exact ⟨_, hTI, fun v q => nomatch q⟩
    · rw [q]; exact ⟨_, hTO, fun v q => nomatch q⟩
    · rw [q]; exact h1.ob
    · rw [q]; exact h2.ob
  keep := fun i h h' st k => by
    obtain ⟨hz, hTI, ⟨x, y, hTO⟩, h1, h2⟩ := st
    exact ⟨k z (by simp) _ hz, k TI (by simp) _ hTI, ⟨x, y, k TO (by simp) _ hTO⟩, h1.at fun o q => k i1 (by simp) o q, h2.at fun o q => k i2 (by simp) o q⟩
  item := by
    intro X hP hw hK hc i pins s σ H E I hf st hg
    subst hP hw hK
    obtain ⟨hz, hTI, ⟨x0, y0, hTO⟩, h1, h2⟩ := st
    obtain ⟨xs, ys, x, y, hqx, hqy, hx, hy⟩ := hg
    obtain ⟨its, rv, p, _⟩ := Inv_sqB I hqx
    obtain ⟨its2, rv2, p2, _⟩ := Inv_sqB I hqy
    obtain ⟨u, hu, ru⟩ := rv.get hx
    obtain ⟨u2, hu2, ru2⟩ := rv2.get hy
    have hzl : z < s.heap.objs.size := Heap.lt_size hz
    have hh : X.A.in1.handled = none := I.ok.hd hc
    have hu' : its.toArray[i]? = some u := by simpa using hu
    have hu2' : its2.toArray[i]? = some u2 := by simpa using hu2
    have hl1 : i < its.toArray.size := (Array.getElem?_eq_some_iff.mp hu').1
    have hl2 : i < its2.toArray.size := (Array.getElem?_eq_some_iff.mp hu2').1
    refine wpAny_pyNext_zipD2_item D (drB t1 hh i1 a n1 its.toArray) (drB t2 hh i2 b n2 its2.toArray) hz hTI hTO ⟨h1, p⟩ ⟨h2, p2⟩ hl1 hl2 fun x1 x2 h' tk e1 e2 z' TO' h1' h2' hT hsz hk => ?_
    obtain rfl : x1 = u := Option.some.inj (e1.symm.trans hu')
    obtain rfl : x2 = u2 := Option.some.inj (e2.symm.trans hu2')
    refine ⟨_, rfl, wpAny_letOwnedTupleGo_zip (s := { s with heap := h', toks := tk }) z' fun h'' z'' sb => ?_⟩
    have hT2 : h''.get? s.heap.objs.size = some { cls := .type "tuple", data := .seq #[x1, x2] } := (sb.2 _ (Nat.ne_of_gt hzl)).trans hT
    have new : ObjOk X.prog X.w (upd H s.heap.objs.size (.tup [x, y])) h'' s.heap.objs.size (.tup [x, y]) :=
      ⟨by show 2 ≤ sizeLine; decide, [x1, x2], .cons ru (.cons ru2 .nil), ⟨_, hT2, rfl, _, rfl⟩⟩
    have I1 : Inv X pins σ (upd H s.heap.objs.size (.tup [x, y])) { s with heap := h'', toks := tk } :=
      I.turnedNew (t' := tk) (ch := [z, TI, TO, i1, i2]) (fun c o hb q => (sb.2 c (fun q' => hb (by simp [q']))).trans (hk c o (fun q' => hb (by simp [q'])) (fun q' => hb (by simp [q'])) (fun q' => hb (by simp [q'])) (fun q' => hb (by simp [q'])) q)) hf (Nat.le_refl _) new
    refine ⟨.ref s.heap.objs.size, _, I1, rfl, ⟨_, x, y, rfl, I.hok.fresh (Nat.le_refl _), rfl, fun l hl => by rw [Inv_injB I hl hqx]; exact hx, fun l hl => by rw [Inv_injB I hl hqy]; exact hy⟩, ⟨z'', ?_, ⟨x1, x2, ?_⟩, ?_, ?_⟩, fun c hcm => ?_⟩
    · exact (sb.2 _ D.TIz).trans (hk _ _ D.TIz D.TITO D.TIi1 D.TIi2 hTI)
    · exact (sb.2 _ D.TOz).trans TO'
    · exact h1'.1.at fun o q => (sb.2 _ D.zi1.symm).trans q
    · exact h2'.1.at fun o q => (sb.2 _ D.zi2.symm).trans q
    · have hlt : c < s.heap.objs.size := by
        have e' : c = z ∨ c = TI ∨ c = TO ∨ c = i1 ∨ c = i2 := by simpa using hcm
        rcases e' with q | q | q | q | q
        · rw [q]; exact hzl
        · rw [q]; exact Heap.lt_size hTI
        · rw [q]; exact Heap.lt_size hTO
        · rw [q]; obtain ⟨_, e1, _⟩ := h1.ob; exact Heap.lt_size e1
        · rw [q]; obtain ⟨_, e2, _⟩ := h2.ob; exact Heap.lt_size e2
      rw [upd_ne (Nat.ne_of_lt hlt)]
      exact (hf c hcm).1
  done := by
    intro X hP hw hK hc i pins s σ H E I hf st hg
    subst hP hw hK
    obtain ⟨hz, hTI, ⟨x0, y0, hTO⟩, h1, h2⟩ := st
    obtain ⟨xs, ys, hqx, hqy, e1, e2⟩ := hg
    obtain ⟨its, rv, p, _⟩ := Inv_sqB I hqx
    obtain ⟨its2, rv2, p2, _⟩ := Inv_sqB I hqy
    have l1 := rv.length
    have l2 := rv2.length
    have hh : X.A.in1.handled = none := I.ok.hd hc
    have s1 : i = its.toArray.size := by simp; omega
    have s2 : i = its2.toArray.size := by simp; omega
    exact wpAny_pyNext_zipD2_end D (drB t1 hh i1 a n1 its.toArray) (drB t2 hh i2 b n2 its2.toArray) hz hTI hTO ⟨h1, p⟩ ⟨h2, p2⟩ (by omega) (by omega) (.inl s1) fun h' tk hk => ⟨rfl, I.turnedL (t' := tk) (ch := [z, TI, TO, i1, i2]) (fun c o hb q =>
      hk c o (fun q' => hb (by simp [q'])) (fun q' => hb (by simp [q'])) (fun q' => hb (by simp [q'])) (fun q' => hb (by simp [q'])) q) hf⟩
  self := fun A i s Q E st h => wpAny_pyIter_zip st.1 h
def iZipM (K : PySem.W.Frag) (ta : TA) : TI := fun σ H R => ta σ H fun vs H1 => ∃ (t1 t2 : Bool) (a b : Addr) (xs ys : List V), vs = [.ref a, .ref b] ∧ SqB K t1 H1 a xs ∧ SqB K t2 H1 b ys ∧ R (ItzM K t1 t2 a b) H1
theorem pi_zipM {X : Cx} {K : PySem.W.Frag} {e e2 : Expr} {ta : TA} {p pos tpos : Pos} {elts : List Expr} {kk : Nat} (hK : X.K = K) (hg : Gl X "zip") (hm : X.mg "zip" = none) (ha : PA X [e, e2] ta)
    (hs : starEach [e, e2] X.env = (false, eval e X.env) :: starEach [e2] X.env := by rfl) (hpl : (backTo pos (starEach [e2] X.env)).any (·.1) = false := by rfl) :
    PI X (.Tuple elts kk tpos) (.Call (.Name "zip" p) [e, e2] [] pos) (iZipM K ta) := by
  subst hK
  refine ⟨fun pins s σ H R I h => ?_⟩
  refine Call_ (ld_blt I hg hm PyProof.Rows.boot_zip (PyProof.Rows.callWith_type1 (thn (ha.run pos pins s σ H _ I h) fun us s1 ⟨vs, H1, I1, r1, q1⟩ => ?_) hs hpl))
  obtain ⟨t1, t2, a, b, xs, ys, ex, hqx, hqy, q⟩ := q1
  subst ex
  cases r1 with
  | cons r rr =>
    cases rr with
    | cons r' rr =>
      cases rr
      cases r
      cases r'
      obtain ⟨its, rv, p1, la⟩ := Inv_sqB I1 hqx
      obtain ⟨its2, rv2, p2, lb⟩ := Inv_sqB I1 hqy
      refine zip_begins2 (beB t1 a its.toArray) (beB t2 b its2.toArray) p1 p2 fun h' hz hTI hTO g1 g2 hsz hk => wpAny_pyIter_zip hz ?_
      have I2 : Inv X pins σ H1 { s1 with heap := h' } := I1.kept (t' := s1.toks) hk
      have D : ZipSep2 (s1.heap.objs.size + 4) (s1.heap.objs.size + 2) (s1.heap.objs.size + 3) s1.heap.objs.size (s1.heap.objs.size + 1) [s1.heap.objs.size, a] [s1.heap.objs.size + 1, b] :=
        zip_sep2 (fp1 := [a]) (fp2 := [b]) (fun c hc => by rw [List.mem_singleton.mp hc]; exact la) (fun c hc => by rw [List.mem_singleton.mp hc]; exact lb)
      refine ⟨s1.heap.objs.size + 4, [s1.heap.objs.size + 4, s1.heap.objs.size + 2, s1.heap.objs.size + 3, s1.heap.objs.size, s1.heap.objs.size + 1], _, _, H1, rfl, I2, turn_zipM D (Nat.ne_of_lt la) (Nat.ne_of_lt (Nat.lt_succ_of_lt lb)), ⟨hz, hTI, ⟨_, _, hTO⟩, itB0 t1 g1, itB0 t2 g2⟩, fun c hcm => ?_, q⟩
      have e' : c = s1.heap.objs.size + 4 ∨ c = s1.heap.objs.size + 2 ∨ c = s1.heap.objs.size + 3 ∨ c = s1.heap.objs.size ∨ c = s1.heap.objs.size + 1 := by simpa using hcm
      have hle : s1.heap.objs.size ≤ c := by
        rcases e' with z | z | z | z | z
        · rw [z]; exact Nat.le_add_right _ _
        · rw [z]; exact Nat.le_add_right _ _
        · rw [z]; exact Nat.le_add_right _ _
        · rw [z]; exact Nat.le_refl _
        · rw [z]; exact Nat.le_add_right _ _
      exact I1.fpOk hle (I1.hok.fresh hle)
/-! ### bool of an own instance without a truth of its own -/
section
variable {prog : Program} {w : World} {A : Around} {E : Value → Shared → Prop} {s : Shared} {K : PySem.W.Frag} {x C : Addr} {ox : Obj} {od : Option Obj}
theorem truthy_ins {Q : Bool → Shared → Prop} (X : K.In s.heap) (I : PySem.W.InstAt s.heap x ox C od) (hb : PySem.W.findIn K (.ref C) "__bool__" = some none) (hl : PySem.W.findIn K (.ref C) "__len__" = some none) (h : Q true s) :
    wpAny (model prog w) A (truthy (.ref x)) Q E s := by
  have hsp : ∀ {Q' : Option Value → Shared → Prop}, Q' none s → wpAny (model prog w) A (specialOf (.ref x) "__len__") Q' E s := fun q => by
    unfold specialOf
    exact wpAny_bind (I.type.here ((PySem.W.looks_findIn X hl).here q))
  unfold truthy
  first
    | refine wpAny_bind (DSub.special_no (name := Str.ofString "__bool__") X I hb ?_)
    | refine wpAny_bind (wpAny_pure (wpAny_bind (DSub.special_no (name := Str.ofString "__bool__") X I hb ?_)))
  first
    | refine wpAny_bind (hsp ?_)
    | refine wpAny_bind (wpAny_pure (wpAny_bind (hsp ?_)))
  exact wpAny_pure h
theorem meets_bool_ins (hb : PySem.W.findIn K (.ref C) "__bool__" = some none) (hl : PySem.W.findIn K (.ref C) "__len__" = some none) :
    Meets (Builtin.«bool.__new__» ⟨[.type "bool", .ref x], []⟩) (fun _ R s => K.In s.heap ∧ PySem.W.InstAt s.heap x ox C od ∧ R (.ok (.ret (.bool true))) s) :=
  Meets.of_wp fun prog w A R s hs => by
    obtain ⟨X, I, hs⟩ := hs
    obtain ⟨hp, g, d, tk, os⟩ := s
    have f1 := F.conv_sub_bool
    repeat (any_goals (first | assumption | (with_reducible refine truthy_ins X I hb hl ?_) | wp_step))
    all_goals first | exact ⟨_, rfl, hs⟩ | exact hs | skip
end
theorem call_boolO {X : Cx} {C : Addr} (hb : PySem.W.findIn X.K (.ref C) "__bool__" = some none) (hl : PySem.W.findIn X.K (.ref C) "__len__" = some none) :
    CallR X (.type "bool") (fun xs H Q => ∃ a dx fs, xs = [.ref a] ∧ H a = some (.ins C dx fs) ∧ Q (.bl true) H) := by
  intro pins s σ H xs us Q I r h
  obtain ⟨a, dx, fs, rfl, ha, q⟩ := h
  obtain rfl := Vals.ref1 r
  obtain ⟨mA, J, _⟩ := ins_get I.hok ha
  obtain ⟨od, J, _⟩ := J.look
  exact PySem.call_bool_1 (meets_bool_ins hb hl) ⟨I.kIn, J, rfl, .bl true, H, I, rfl, q⟩
end Rw

set_option Elab.async false
set_option linter.all false
set_option maxRecDepth 100000
set_option maxHeartbeats 4000000
namespace K6
open PySem PySem.Spec PyProof.Rows L2 Rw
/-! ### the text by places, the names of each def -/
def topS (i : Nat) : Stmt := PySem.Challenge.pw_rowreaders_k56_whole_written_rows.main.body.getD i (.Pass ⟨0, 0, 0, 0⟩)
abbrev s_is_integer : Stmt := topS 15
abbrev n_is_integer : List Str := ["value"]
abbrev p_is_integer : List Str := ["value"]
theorem sc_is_integer : FnScope n_is_integer p_is_integer (defScope s_is_integer) := ⟨rfl, rfl, rfl, by decide +kernel, rfl, by decide +kernel, by decide +kernel⟩
abbrev s_is_between : Stmt := topS 16
abbrev n_is_between : List Str := ["value", "low", "high"]
abbrev p_is_between : List Str := ["value", "low", "high"]
theorem sc_is_between : FnScope n_is_between p_is_between (defScope s_is_between) := ⟨rfl, rfl, rfl, by decide +kernel, rfl, by decide +kernel, by decide +kernel⟩
abbrev s_is_row : Stmt := topS 17
abbrev n_is_row : List Str := ["value", "signs", "most", "letters", "sign"]
abbrev p_is_row : List Str := ["value", "signs", "most"]
theorem sc_is_row : FnScope n_is_row p_is_row (defScope s_is_row) := ⟨rfl, rfl, rfl, by decide +kernel, rfl, by decide +kernel, by decide +kernel⟩
abbrev s_is_ascending : Stmt := topS 18
abbrev n_is_ascending : List Str := ["values", "at"]
abbrev p_is_ascending : List Str := ["values"]
theorem sc_is_ascending : FnScope n_is_ascending p_is_ascending (defScope s_is_ascending) := ⟨rfl, rfl, rfl, by decide +kernel, rfl, by decide +kernel, by decide +kernel⟩
abbrev s_is_stands : Stmt := topS 19
abbrev n_is_stands : List Str := ["value", "size", "stand"]
abbrev p_is_stands : List Str := ["value", "size"]
theorem sc_is_stands : FnScope n_is_stands p_is_stands (defScope s_is_stands) := ⟨rfl, rfl, rfl, by decide +kernel, rfl, by decide +kernel, by decide +kernel⟩
abbrev s_is_arrows : Stmt := topS 20
abbrev n_is_arrows : List Str := ["value", "signs", "goals"]
abbrev p_is_arrows : List Str := ["value", "signs"]
theorem sc_is_arrows : FnScope n_is_arrows p_is_arrows (defScope s_is_arrows) := ⟨rfl, rfl, rfl, by decide +kernel, rfl, by decide +kernel, by decide +kernel⟩
abbrev s_is_goals : Stmt := topS 21
abbrev n_is_goals : List Str := ["value", "signs", "size", "goal"]
abbrev p_is_goals : List Str := ["value", "signs", "size"]
theorem sc_is_goals : FnScope n_is_goals p_is_goals (defScope s_is_goals) := ⟨rfl, rfl, rfl, by decide +kernel, rfl, by decide +kernel, by decide +kernel⟩
abbrev s_check_signs : Stmt := topS 22
abbrev n_check_signs : List Str := ["signs"]
abbrev p_check_signs : List Str := ["signs"]
theorem sc_check_signs : FnScope n_check_signs p_check_signs (defScope s_check_signs) := ⟨rfl, rfl, rfl, by decide +kernel, rfl, by decide +kernel, by decide +kernel⟩
abbrev s_check_row : Stmt := topS 23
abbrev n_check_row : List Str := ["signs", "row"]
abbrev p_check_row : List Str := ["signs", "row"]
theorem sc_check_row : FnScope n_check_row p_check_row (defScope s_check_row) := ⟨rfl, rfl, rfl, by decide +kernel, rfl, by decide +kernel, by decide +kernel⟩
abbrev s_flags_of : Stmt := topS 25
abbrev n_flags_of : List Str := ["size", "stands", "flags", "stand"]
abbrev p_flags_of : List Str := ["size", "stands"]
theorem sc_flags_of : FnScope n_flags_of p_flags_of (defScope s_flags_of) := ⟨rfl, rfl, rfl, by decide +kernel, rfl, by decide +kernel, by decide +kernel⟩
abbrev s_Reader_init : Stmt := inClass (topS 27) 0
abbrev n_Reader_init : List Str := ["self", "signs", "arrows", "ends"]
abbrev p_Reader_init : List Str := ["self", "signs", "arrows", "ends"]
theorem sc_Reader_init : FnScope n_Reader_init p_Reader_init (defScope s_Reader_init) := ⟨rfl, rfl, rfl, by decide +kernel, rfl, by decide +kernel, by decide +kernel⟩
abbrev s_Reader_signs : Stmt := inClass (topS 27) 1
abbrev n_Reader_signs : List Str := ["self"]
abbrev p_Reader_signs : List Str := ["self"]
theorem sc_Reader_signs : FnScope n_Reader_signs p_Reader_signs (defScope s_Reader_signs) := ⟨rfl, rfl, rfl, by decide +kernel, rfl, by decide +kernel, by decide +kernel⟩
abbrev s_Reader_arrows : Stmt := inClass (topS 27) 2
abbrev n_Reader_arrows : List Str := ["self"]
abbrev p_Reader_arrows : List Str := ["self"]
theorem sc_Reader_arrows : FnScope n_Reader_arrows p_Reader_arrows (defScope s_Reader_arrows) := ⟨rfl, rfl, rfl, by decide +kernel, rfl, by decide +kernel, by decide +kernel⟩
abbrev s_Reader_ends : Stmt := inClass (topS 27) 3
abbrev n_Reader_ends : List Str := ["self"]
abbrev p_Reader_ends : List Str := ["self"]
theorem sc_Reader_ends : FnScope n_Reader_ends p_Reader_ends (defScope s_Reader_ends) := ⟨rfl, rfl, rfl, by decide +kernel, rfl, by decide +kernel, by decide +kernel⟩
abbrev s_Reader_len : Stmt := inClass (topS 27) 4
abbrev n_Reader_len : List Str := ["self"]
abbrev p_Reader_len : List Str := ["self"]
theorem sc_Reader_len : FnScope n_Reader_len p_Reader_len (defScope s_Reader_len) := ⟨rfl, rfl, rfl, by decide +kernel, rfl, by decide +kernel, by decide +kernel⟩
abbrev s_Reader_eq : Stmt := inClass (topS 27) 6
abbrev n_Reader_eq : List Str := ["self", "other"]
abbrev p_Reader_eq : List Str := ["self", "other"]
theorem sc_Reader_eq : FnScope n_Reader_eq p_Reader_eq (defScope s_Reader_eq) := ⟨rfl, rfl, rfl, by decide +kernel, rfl, by decide +kernel, by decide +kernel⟩
abbrev s_check_reader : Stmt := topS 28
abbrev n_check_reader : List Str := ["reader"]
abbrev p_check_reader : List Str := ["reader"]
theorem sc_check_reader : FnScope n_check_reader p_check_reader (defScope s_check_reader) := ⟨rfl, rfl, rfl, by decide +kernel, rfl, by decide +kernel, by decide +kernel⟩
abbrev s_end_flags : Stmt := topS 29
abbrev n_end_flags : List Str := ["reader"]
abbrev p_end_flags : List Str := ["reader"]
theorem sc_end_flags : FnScope n_end_flags p_end_flags (defScope s_end_flags) := ⟨rfl, rfl, rfl, by decide +kernel, rfl, by decide +kernel, by decide +kernel⟩
abbrev s_Writer_init : Stmt := inClass (topS 31) 0
abbrev n_Writer_init : List Str := ["self", "reader", "signs", "start", "words", "lasts"]
abbrev p_Writer_init : List Str := ["self", "reader", "signs", "start", "words", "lasts"]
theorem sc_Writer_init : FnScope n_Writer_init p_Writer_init (defScope s_Writer_init) := ⟨rfl, rfl, rfl, by decide +kernel, rfl, by decide +kernel, by decide +kernel⟩
abbrev s_Writer_reader : Stmt := inClass (topS 31) 1
abbrev n_Writer_reader : List Str := ["self"]
abbrev p_Writer_reader : List Str := ["self"]
theorem sc_Writer_reader : FnScope n_Writer_reader p_Writer_reader (defScope s_Writer_reader) := ⟨rfl, rfl, rfl, by decide +kernel, rfl, by decide +kernel, by decide +kernel⟩
abbrev s_Writer_signs : Stmt := inClass (topS 31) 2
abbrev n_Writer_signs : List Str := ["self"]
abbrev p_Writer_signs : List Str := ["self"]
theorem sc_Writer_signs : FnScope n_Writer_signs p_Writer_signs (defScope s_Writer_signs) := ⟨rfl, rfl, rfl, by decide +kernel, rfl, by decide +kernel, by decide +kernel⟩
abbrev s_Writer_start : Stmt := inClass (topS 31) 3
abbrev n_Writer_start : List Str := ["self"]
abbrev p_Writer_start : List Str := ["self"]
theorem sc_Writer_start : FnScope n_Writer_start p_Writer_start (defScope s_Writer_start) := ⟨rfl, rfl, rfl, by decide +kernel, rfl, by decide +kernel, by decide +kernel⟩
abbrev s_Writer_words : Stmt := inClass (topS 31) 4
abbrev n_Writer_words : List Str := ["self"]
abbrev p_Writer_words : List Str := ["self"]
theorem sc_Writer_words : FnScope n_Writer_words p_Writer_words (defScope s_Writer_words) := ⟨rfl, rfl, rfl, by decide +kernel, rfl, by decide +kernel, by decide +kernel⟩
abbrev s_Writer_lasts : Stmt := inClass (topS 31) 5
abbrev n_Writer_lasts : List Str := ["self"]
abbrev p_Writer_lasts : List Str := ["self"]
theorem sc_Writer_lasts : FnScope n_Writer_lasts p_Writer_lasts (defScope s_Writer_lasts) := ⟨rfl, rfl, rfl, by decide +kernel, rfl, by decide +kernel, by decide +kernel⟩
abbrev s_Writer_eq : Stmt := inClass (topS 31) 6
abbrev n_Writer_eq : List Str := ["self", "other"]
abbrev p_Writer_eq : List Str := ["self", "other"]
theorem sc_Writer_eq : FnScope n_Writer_eq p_Writer_eq (defScope s_Writer_eq) := ⟨rfl, rfl, rfl, by decide +kernel, rfl, by decide +kernel, by decide +kernel⟩
abbrev s_is_output : Stmt := topS 32
abbrev n_is_output : List Str := ["value", "flags", "signs", "word", "flag"]
abbrev p_is_output : List Str := ["value", "flags", "signs"]
theorem sc_is_output : FnScope n_is_output p_is_output (defScope s_is_output) := ⟨rfl, rfl, rfl, by decide +kernel, rfl, by decide +kernel, by decide +kernel⟩
abbrev s_is_words : Stmt := topS 33
abbrev n_is_words : List Str := ["value", "reader", "signs", "flags", "goals", "goal", "words", "arrows"]
abbrev p_is_words : List Str := ["value", "reader", "signs"]
theorem sc_is_words : FnScope n_is_words p_is_words (defScope s_is_words) := ⟨rfl, rfl, rfl, by decide +kernel, rfl, by decide +kernel, by decide +kernel⟩
abbrev s_check_writer : Stmt := topS 34
abbrev n_check_writer : List Str := ["writer"]
abbrev p_check_writer : List Str := ["writer"]
theorem sc_check_writer : FnScope n_check_writer p_check_writer (defScope s_check_writer) := ⟨rfl, rfl, rfl, by decide +kernel, rfl, by decide +kernel, by decide +kernel⟩
abbrev s_written : Stmt := topS 35
abbrev n_written : List Str := ["writer", "row", "stand", "words", "sign", "at", "last"]
abbrev p_written : List Str := ["writer", "row"]
theorem sc_written : FnScope n_written p_written (defScope s_written) := ⟨rfl, rfl, rfl, by decide +kernel, rfl, by decide +kernel, by decide +kernel⟩
abbrev s_l_flask : Stmt := topS 37
abbrev n_l_flask : List Str := ["_law_script", "_law_k", "_law_own", "_law_mixed", "_law_entry_here"]
abbrev p_l_flask : List Str := ["_law_script", "_law_k"]
theorem sc_l_flask : FnScope n_l_flask p_l_flask (defScope s_l_flask) := ⟨rfl, rfl, rfl, by decide +kernel, rfl, by decide +kernel, by decide +kernel⟩
abbrev s_l_pour : Stmt := topS 38
abbrev n_l_pour : List Str := ["_law_flask_here", "_law_top", "_law_digit", "_law_level_here", "_law_factor"]
abbrev p_l_pour : List Str := ["_law_flask_here", "_law_top"]
theorem sc_l_pour : FnScope n_l_pour p_l_pour (defScope s_l_pour) := ⟨rfl, rfl, rfl, by decide +kernel, rfl, by decide +kernel, by decide +kernel⟩
abbrev s_l_pick : Stmt := topS 39
abbrev n_l_pick : List Str := ["_law_flask_here", "_law_some"]
abbrev p_l_pick : List Str := ["_law_flask_here", "_law_some"]
theorem sc_l_pick : FnScope n_l_pick p_l_pick (defScope s_l_pick) := ⟨rfl, rfl, rfl, by decide +kernel, rfl, by decide +kernel, by decide +kernel⟩
abbrev s_l_thing : Stmt := topS 40
abbrev n_l_thing : List Str := ["_law_flask_here", "_law_signs", "_law_most", "_law_size", "_law_arrows_here", "_law_turn", "_law_goals_here", "_law_spot", "_law_at"]
abbrev p_l_thing : List Str := ["_law_flask_here", "_law_signs", "_law_most"]
theorem sc_l_thing : FnScope n_l_thing p_l_thing (defScope s_l_thing) := ⟨rfl, rfl, rfl, by decide +kernel, rfl, by decide +kernel, by decide +kernel⟩
abbrev s_l_word : Stmt := topS 41
abbrev n_l_word : List Str := ["_law_flask_here", "_law_most", "_law_turn"]
abbrev p_l_word : List Str := ["_law_flask_here", "_law_most"]
theorem sc_l_word : FnScope n_l_word p_l_word (defScope s_l_word) := ⟨rfl, rfl, rfl, by decide +kernel, rfl, by decide +kernel, by decide +kernel⟩
abbrev s_l_scribe : Stmt := topS 42
abbrev n_l_scribe : List Str := ["_law_flask_here", "_law_signs", "_law_size", "_law_most", "_law_thing_here", "_law_words_here", "_law_row", "_law_lasts_here", "_law_goal", "_law_at"]
abbrev p_l_scribe : List Str := ["_law_flask_here", "_law_signs", "_law_size", "_law_most"]
theorem sc_l_scribe : FnScope n_l_scribe p_l_scribe (defScope s_l_scribe) := ⟨rfl, rfl, rfl, by decide +kernel, rfl, by decide +kernel, by decide +kernel⟩
abbrev s_l_writer : Stmt := topS 43
abbrev n_l_writer : List Str := ["_law_signs", "_law_scribe_here", "_law_thing_here", "_law_first", "_law_words_here", "_law_lasts_here"]
abbrev p_l_writer : List Str := ["_law_signs", "_law_scribe_here"]
theorem sc_l_writer : FnScope n_l_writer p_l_writer (defScope s_l_writer) := ⟨rfl, rfl, rfl, by decide +kernel, rfl, by decide +kernel, by decide +kernel⟩
abbrev s_l_wrote : Stmt := topS 44
abbrev n_l_wrote : List Str := ["_law_scribe_here", "_law_row", "_law_thing_here", "_law_found", "_law_words_here", "_law_lasts_here", "_law_at", "_law_letter", "_law_spot"]
abbrev p_l_wrote : List Str := ["_law_scribe_here", "_law_row"]
theorem sc_l_wrote : FnScope n_l_wrote p_l_wrote (defScope s_l_wrote) := ⟨rfl, rfl, rfl, by decide +kernel, rfl, by decide +kernel, by decide +kernel⟩
abbrev s_l_words : Stmt := topS 45
abbrev n_l_words : List Str := ["_law_signs", "_law_most", "_law_found", "_law_layer", "_law_turn", "_law_longer", "_law_row", "_law_letter"]
abbrev p_l_words : List Str := ["_law_signs", "_law_most"]
theorem sc_l_words : FnScope n_l_words p_l_words (defScope s_l_words) := ⟨rfl, rfl, rfl, by decide +kernel, rfl, by decide +kernel, by decide +kernel⟩
abbrev s_l_one_right : Stmt := topS 46
abbrev n_l_one_right : List Str := ["_law_flask_here", "_law_signs", "_law_scribe_here", "_law_mine", "_law_thing_here", "_law_first", "_law_words_here", "_law_lasts_here", "_law_told", "_law_rows_here", "_law_long", "_law_row", "_law_turn"]
abbrev p_l_one_right : List Str := ["_law_flask_here", "_law_signs", "_law_scribe_here"]
theorem sc_l_one_right : FnScope n_l_one_right p_l_one_right (defScope s_l_one_right) := ⟨rfl, rfl, rfl, by decide +kernel, rfl, by decide +kernel, by decide +kernel⟩
abbrev s_l_equal_right : Stmt := topS 47
abbrev n_l_equal_right : List Str := ["_law_signs", "_law_scribe_here", "_law_others", "_law_mine", "_law_far", "_law_thing_here", "_law_first", "_law_words_here", "_law_lasts_here", "_law_same", "_law_twin", "_law_wide"]
abbrev p_l_equal_right : List Str := ["_law_signs", "_law_scribe_here", "_law_others"]
theorem sc_l_equal_right : FnScope n_l_equal_right p_l_equal_right (defScope s_l_equal_right) := ⟨rfl, rfl, rfl, by decide +kernel, rfl, by decide +kernel, by decide +kernel⟩
abbrev s_l_right : Stmt := topS 48
abbrev n_l_right : List Str := ["_law_flask_here", "_law_turn", "_law_signs", "_law_scribe_here", "_law_others"]
abbrev p_l_right : List Str := ["_law_flask_here"]
theorem sc_l_right : FnScope n_l_right p_l_right (defScope s_l_right) := ⟨rfl, rfl, rfl, by decide +kernel, rfl, by decide +kernel, by decide +kernel⟩
abbrev s_law : Stmt := topS 49
abbrev n_law : List Str := ["_law_script", "_law_k"]
abbrev p_law : List Str := ["_law_script"]
theorem sc_law : FnScope n_law p_law (defScope s_law) := ⟨rfl, rfl, rfl, by decide +kernel, rfl, by decide +kernel, by decide +kernel⟩
/-! ### where the defs stand -/
structure Ad where
  is_integer : Addr
  is_between : Addr
  is_row : Addr
  is_ascending : Addr
  is_stands : Addr
  is_arrows : Addr
  is_goals : Addr
  check_signs : Addr
  check_row : Addr
  flags_of : Addr
  Reader_init : Addr
  Reader_signs : Addr
  Reader_arrows : Addr
  Reader_ends : Addr
  Reader_len : Addr
  Reader_eq : Addr
  check_reader : Addr
  end_flags : Addr
  Writer_init : Addr
  Writer_reader : Addr
  Writer_signs : Addr
  Writer_start : Addr
  Writer_words : Addr
  Writer_lasts : Addr
  Writer_eq : Addr
  is_output : Addr
  is_words : Addr
  check_writer : Addr
  written : Addr
  l_flask : Addr
  l_pour : Addr
  l_pick : Addr
  l_thing : Addr
  l_word : Addr
  l_scribe : Addr
  l_writer : Addr
  l_wrote : Addr
  l_words : Addr
  l_one_right : Addr
  l_equal_right : Addr
  l_right : Addr
  law : Addr
  C : Addr
  pr_signs : Addr
  pr_arrows : Addr
  pr_ends : Addr
  C_Writer : Addr
  pr_Writer_reader : Addr
  pr_Writer_signs : Addr
  pr_Writer_start : Addr
  pr_Writer_words : Addr
  pr_Writer_lasts : Addr
structure Txt (K : PySem.W.Frag) (mg : Str → Option Value) (A : Ad) : Prop where
  b_abs : mg "abs" = none
  b_all : mg "all" = none
  b_bool : mg "bool" = none
  b_divmod : mg "divmod" = none
  b_int : mg "int" = none
  b_isinstance : mg "isinstance" = none
  b_len : mg "len" = none
  b_max : mg "max" = none
  b_min : mg "min" = none
  b_range : mg "range" = none
  b_repr : mg "repr" = none
  b_str : mg "str" = none
  b_tuple : mg "tuple" = none
  b_zip : mg "zip" = none
  c_ALPHABET : ∃ t, mg "ALPHABET" = some (.str "abcdefgh" t)
  c_MOST_ROW : ∃ t, mg "MOST_ROW" = some (.int 200 t)
  c_MOST_SIGNS : ∃ t, mg "MOST_SIGNS" = some (.int 8 t)
  c_MOST_STANDS : ∃ t, mg "MOST_STANDS" = some (.int 200 t)
  c_MOST_WORD : ∃ t, mg "MOST_WORD" = some (.int 4 t)
  m_is_integer : mg "is_integer" = some (.ref A.is_integer)
  k_is_integer : PySem.W.keepIn K (.ref A.is_integer) = true
  m_is_between : mg "is_between" = some (.ref A.is_between)
  k_is_between : PySem.W.keepIn K (.ref A.is_between) = true
  m_is_row : mg "is_row" = some (.ref A.is_row)
  k_is_row : PySem.W.keepIn K (.ref A.is_row) = true
  m_is_ascending : mg "is_ascending" = some (.ref A.is_ascending)
  k_is_ascending : PySem.W.keepIn K (.ref A.is_ascending) = true
  m_is_stands : mg "is_stands" = some (.ref A.is_stands)
  k_is_stands : PySem.W.keepIn K (.ref A.is_stands) = true
  m_is_arrows : mg "is_arrows" = some (.ref A.is_arrows)
  k_is_arrows : PySem.W.keepIn K (.ref A.is_arrows) = true
  m_is_goals : mg "is_goals" = some (.ref A.is_goals)
  k_is_goals : PySem.W.keepIn K (.ref A.is_goals) = true
  m_check_signs : mg "check_signs" = some (.ref A.check_signs)
  k_check_signs : PySem.W.keepIn K (.ref A.check_signs) = true
  m_check_row : mg "check_row" = some (.ref A.check_row)
  k_check_row : PySem.W.keepIn K (.ref A.check_row) = true
  m_flags_of : mg "flags_of" = some (.ref A.flags_of)
  k_flags_of : PySem.W.keepIn K (.ref A.flags_of) = true
  m_check_reader : mg "check_reader" = some (.ref A.check_reader)
  k_check_reader : PySem.W.keepIn K (.ref A.check_reader) = true
  m_end_flags : mg "end_flags" = some (.ref A.end_flags)
  k_end_flags : PySem.W.keepIn K (.ref A.end_flags) = true
  m_is_output : mg "is_output" = some (.ref A.is_output)
  k_is_output : PySem.W.keepIn K (.ref A.is_output) = true
  m_is_words : mg "is_words" = some (.ref A.is_words)
  k_is_words : PySem.W.keepIn K (.ref A.is_words) = true
  m_check_writer : mg "check_writer" = some (.ref A.check_writer)
  k_check_writer : PySem.W.keepIn K (.ref A.check_writer) = true
  m_written : mg "written" = some (.ref A.written)
  k_written : PySem.W.keepIn K (.ref A.written) = true
  m_l_flask : mg "_law_flask" = some (.ref A.l_flask)
  k_l_flask : PySem.W.keepIn K (.ref A.l_flask) = true
  m_l_pour : mg "_law_pour" = some (.ref A.l_pour)
  k_l_pour : PySem.W.keepIn K (.ref A.l_pour) = true
  m_l_pick : mg "_law_pick" = some (.ref A.l_pick)
  k_l_pick : PySem.W.keepIn K (.ref A.l_pick) = true
  m_l_thing : mg "_law_thing" = some (.ref A.l_thing)
  k_l_thing : PySem.W.keepIn K (.ref A.l_thing) = true
  m_l_word : mg "_law_word" = some (.ref A.l_word)
  k_l_word : PySem.W.keepIn K (.ref A.l_word) = true
  m_l_scribe : mg "_law_scribe" = some (.ref A.l_scribe)
  k_l_scribe : PySem.W.keepIn K (.ref A.l_scribe) = true
  m_l_writer : mg "_law_writer" = some (.ref A.l_writer)
  k_l_writer : PySem.W.keepIn K (.ref A.l_writer) = true
  m_l_wrote : mg "_law_wrote" = some (.ref A.l_wrote)
  k_l_wrote : PySem.W.keepIn K (.ref A.l_wrote) = true
  m_l_words : mg "_law_words" = some (.ref A.l_words)
  k_l_words : PySem.W.keepIn K (.ref A.l_words) = true
  m_l_one_right : mg "_law_one_right" = some (.ref A.l_one_right)
  k_l_one_right : PySem.W.keepIn K (.ref A.l_one_right) = true
  m_l_equal_right : mg "_law_equal_right" = some (.ref A.l_equal_right)
  k_l_equal_right : PySem.W.keepIn K (.ref A.l_equal_right) = true
  m_l_right : mg "_law_right" = some (.ref A.l_right)
  k_l_right : PySem.W.keepIn K (.ref A.l_right) = true
  m_law : mg "law" = some (.ref A.law)
  k_law : PySem.W.keepIn K (.ref A.law) = true
  m_Reader : mg "Reader" = some (.ref A.C)
  cl : Cls K A.C
  mk_Reader : Mk K A.C A.Reader_init
  na_signs : NoAttr K A.C "_signs"
  na_arrows : NoAttr K A.C "_arrows"
  na_ends : NoAttr K A.C "_ends"
  p_Reader_signs : PropOf K A.C "signs" A.pr_signs A.Reader_signs
  p_Reader_arrows : PropOf K A.C "arrows" A.pr_arrows A.Reader_arrows
  p_Reader_ends : PropOf K A.C "ends" A.pr_ends A.Reader_ends
  t_ha : PySem.W.findIn K (.ref A.C) "__class__" = some (some (.builtin "object.__class__"))
  t_mo : PySem.W.mroIn K A.C (.type "object") = some true
  own_eq : PySem.W.findIn K (.ref A.C) "__eq__" = some (some (.ref A.Reader_eq))
  isf_eq : PySem.W.isFn K (.ref A.Reader_eq) = true
  own_len : PySem.W.findIn K (.ref A.C) "__len__" = some (some (.ref A.Reader_len))
  isf_len : PySem.W.isFn K (.ref A.Reader_len) = true
  own_ne : PySem.W.findIn K (.ref A.C) "__ne__" = some (some (.builtin "object.__ne__"))
  nf_Reader : PySem.W.notFirst K A.C (.ref A.C) = true
  m_Writer : mg "Writer" = some (.ref A.C_Writer)
  cl_Writer : Cls K A.C_Writer
  mk_Writer : Mk K A.C_Writer A.Writer_init
  na_Writer_reader : NoAttr K A.C_Writer "_reader"
  na_Writer_signs : NoAttr K A.C_Writer "_signs"
  na_Writer_start : NoAttr K A.C_Writer "_start"
  na_Writer_words : NoAttr K A.C_Writer "_words"
  na_Writer_lasts : NoAttr K A.C_Writer "_lasts"
  p_Writer_reader : PropOf K A.C_Writer "reader" A.pr_Writer_reader A.Writer_reader
  p_Writer_signs : PropOf K A.C_Writer "signs" A.pr_Writer_signs A.Writer_signs
  p_Writer_start : PropOf K A.C_Writer "start" A.pr_Writer_start A.Writer_start
  p_Writer_words : PropOf K A.C_Writer "words" A.pr_Writer_words A.Writer_words
  p_Writer_lasts : PropOf K A.C_Writer "lasts" A.pr_Writer_lasts A.Writer_lasts
  t_ha_Writer : PySem.W.findIn K (.ref A.C_Writer) "__class__" = some (some (.builtin "object.__class__"))
  t_mo_Writer : PySem.W.mroIn K A.C_Writer (.type "object") = some true
  own_eq_Writer : PySem.W.findIn K (.ref A.C_Writer) "__eq__" = some (some (.ref A.Writer_eq))
  isf_eq_Writer : PySem.W.isFn K (.ref A.Writer_eq) = true
  own_ne_Writer : PySem.W.findIn K (.ref A.C_Writer) "__ne__" = some (some (.builtin "object.__ne__"))
  nb_Writer : PySem.W.findIn K (.ref A.C_Writer) "__bool__" = some none
  nl_Writer : PySem.W.findIn K (.ref A.C_Writer) "__len__" = some none
  nf_Writer_Writer : PySem.W.notFirst K A.C_Writer (.ref A.C_Writer) = true
  nf_Writer_Reader : PySem.W.notFirst K A.C_Writer (.ref A.C) = true
  kc_Writer_Reader : PySem.W.kitOne K (.ref A.C) (.ref A.C_Writer) = some false
  nf_Writer_tuple : PySem.W.notFirst K A.C_Writer (.type "tuple") = true
  kc_Writer_tuple : PySem.W.kitOne K (.type "tuple") (.ref A.C_Writer) = some false
  t_hn : PySem.W.specialIn K (.builtin "object.__class__") "__get__" = some (some (.builtin "getset_descriptor.__get__"))
  t_tk : PySem.W.takesIn K (.builtin "object.__class__") = some true
/-! ### the defs themselves -/
structure Fds where
  is_integer : FuncData
  is_between : FuncData
  is_row : FuncData
  is_ascending : FuncData
  is_stands : FuncData
  is_arrows : FuncData
  is_goals : FuncData
  check_signs : FuncData
  check_row : FuncData
  flags_of : FuncData
  Reader_init : FuncData
  Reader_signs : FuncData
  Reader_arrows : FuncData
  Reader_ends : FuncData
  Reader_len : FuncData
  Reader_eq : FuncData
  check_reader : FuncData
  end_flags : FuncData
  Writer_init : FuncData
  Writer_reader : FuncData
  Writer_signs : FuncData
  Writer_start : FuncData
  Writer_words : FuncData
  Writer_lasts : FuncData
  Writer_eq : FuncData
  is_output : FuncData
  is_words : FuncData
  check_writer : FuncData
  written : FuncData
  l_flask : FuncData
  l_pour : FuncData
  l_pick : FuncData
  l_thing : FuncData
  l_word : FuncData
  l_scribe : FuncData
  l_writer : FuncData
  l_wrote : FuncData
  l_words : FuncData
  l_one_right : FuncData
  l_equal_right : FuncData
  l_right : FuncData
  law : FuncData
structure Funs (K : PySem.W.Frag) (A : Ad) (fd : Fds) : Prop where
  F_is_integer : Fun K "is_integer" "is_integer" s_is_integer A.is_integer fd.is_integer
  b_is_integer : L2.Binds K fd.is_integer p_is_integer []
  F_is_between : Fun K "is_between" "is_between" s_is_between A.is_between fd.is_between
  b_is_between : L2.Binds K fd.is_between p_is_between []
  F_is_row : Fun K "is_row" "is_row" s_is_row A.is_row fd.is_row
  b_is_row : L2.Binds K fd.is_row p_is_row []
  F_is_ascending : Fun K "is_ascending" "is_ascending" s_is_ascending A.is_ascending fd.is_ascending
  b_is_ascending : L2.Binds K fd.is_ascending p_is_ascending []
  F_is_stands : Fun K "is_stands" "is_stands" s_is_stands A.is_stands fd.is_stands
  b_is_stands : L2.Binds K fd.is_stands p_is_stands []
  F_is_arrows : Fun K "is_arrows" "is_arrows" s_is_arrows A.is_arrows fd.is_arrows
  b_is_arrows : L2.Binds K fd.is_arrows p_is_arrows []
  F_is_goals : Fun K "is_goals" "is_goals" s_is_goals A.is_goals fd.is_goals
  b_is_goals : L2.Binds K fd.is_goals p_is_goals []
  F_check_signs : Fun K "check_signs" "check_signs" s_check_signs A.check_signs fd.check_signs
  b_check_signs : L2.Binds K fd.check_signs p_check_signs []
  F_check_row : Fun K "check_row" "check_row" s_check_row A.check_row fd.check_row
  b_check_row : L2.Binds K fd.check_row p_check_row []
  F_flags_of : Fun K "flags_of" "flags_of" s_flags_of A.flags_of fd.flags_of
  b_flags_of : L2.Binds K fd.flags_of p_flags_of []
  F_Reader_init : Fun K "__init__" "Reader.__init__" s_Reader_init A.Reader_init fd.Reader_init
  b_Reader_init : L2.Binds K fd.Reader_init p_Reader_init []
  F_Reader_signs : Fun K "signs" "Reader.signs" s_Reader_signs A.Reader_signs fd.Reader_signs
  b_Reader_signs : L2.Binds K fd.Reader_signs p_Reader_signs []
  F_Reader_arrows : Fun K "arrows" "Reader.arrows" s_Reader_arrows A.Reader_arrows fd.Reader_arrows
  b_Reader_arrows : L2.Binds K fd.Reader_arrows p_Reader_arrows []
  F_Reader_ends : Fun K "ends" "Reader.ends" s_Reader_ends A.Reader_ends fd.Reader_ends
  b_Reader_ends : L2.Binds K fd.Reader_ends p_Reader_ends []
  F_Reader_len : Fun K "__len__" "Reader.__len__" s_Reader_len A.Reader_len fd.Reader_len
  b_Reader_len : L2.Binds K fd.Reader_len p_Reader_len []
  F_Reader_eq : Fun K "__eq__" "Reader.__eq__" s_Reader_eq A.Reader_eq fd.Reader_eq
  b_Reader_eq : L2.Binds K fd.Reader_eq p_Reader_eq []
  F_check_reader : Fun K "check_reader" "check_reader" s_check_reader A.check_reader fd.check_reader
  b_check_reader : L2.Binds K fd.check_reader p_check_reader []
  F_end_flags : Fun K "end_flags" "end_flags" s_end_flags A.end_flags fd.end_flags
  b_end_flags : L2.Binds K fd.end_flags p_end_flags []
  F_Writer_init : Fun K "__init__" "Writer.__init__" s_Writer_init A.Writer_init fd.Writer_init
  b_Writer_init : L2.Binds K fd.Writer_init p_Writer_init []
  F_Writer_reader : Fun K "reader" "Writer.reader" s_Writer_reader A.Writer_reader fd.Writer_reader
  b_Writer_reader : L2.Binds K fd.Writer_reader p_Writer_reader []
  F_Writer_signs : Fun K "signs" "Writer.signs" s_Writer_signs A.Writer_signs fd.Writer_signs
  b_Writer_signs : L2.Binds K fd.Writer_signs p_Writer_signs []
  F_Writer_start : Fun K "start" "Writer.start" s_Writer_start A.Writer_start fd.Writer_start
  b_Writer_start : L2.Binds K fd.Writer_start p_Writer_start []
  F_Writer_words : Fun K "words" "Writer.words" s_Writer_words A.Writer_words fd.Writer_words
  b_Writer_words : L2.Binds K fd.Writer_words p_Writer_words []
  F_Writer_lasts : Fun K "lasts" "Writer.lasts" s_Writer_lasts A.Writer_lasts fd.Writer_lasts
  b_Writer_lasts : L2.Binds K fd.Writer_lasts p_Writer_lasts []
  F_Writer_eq : Fun K "__eq__" "Writer.__eq__" s_Writer_eq A.Writer_eq fd.Writer_eq
  b_Writer_eq : L2.Binds K fd.Writer_eq p_Writer_eq []
  F_is_output : Fun K "is_output" "is_output" s_is_output A.is_output fd.is_output
  b_is_output : L2.Binds K fd.is_output p_is_output []
  F_is_words : Fun K "is_words" "is_words" s_is_words A.is_words fd.is_words
  b_is_words : L2.Binds K fd.is_words p_is_words []
  F_check_writer : Fun K "check_writer" "check_writer" s_check_writer A.check_writer fd.check_writer
  b_check_writer : L2.Binds K fd.check_writer p_check_writer []
  F_written : Fun K "written" "written" s_written A.written fd.written
  b_written : L2.Binds K fd.written p_written []
  F_l_flask : Fun K "_law_flask" "_law_flask" s_l_flask A.l_flask fd.l_flask
  b_l_flask : L2.Binds K fd.l_flask p_l_flask []
  F_l_pour : Fun K "_law_pour" "_law_pour" s_l_pour A.l_pour fd.l_pour
  b_l_pour : L2.Binds K fd.l_pour p_l_pour []
  F_l_pick : Fun K "_law_pick" "_law_pick" s_l_pick A.l_pick fd.l_pick
  b_l_pick : L2.Binds K fd.l_pick p_l_pick []
  F_l_thing : Fun K "_law_thing" "_law_thing" s_l_thing A.l_thing fd.l_thing
  b_l_thing : L2.Binds K fd.l_thing p_l_thing []
  F_l_word : Fun K "_law_word" "_law_word" s_l_word A.l_word fd.l_word
  b_l_word : L2.Binds K fd.l_word p_l_word []
  F_l_scribe : Fun K "_law_scribe" "_law_scribe" s_l_scribe A.l_scribe fd.l_scribe
  b_l_scribe : L2.Binds K fd.l_scribe p_l_scribe []
  F_l_writer : Fun K "_law_writer" "_law_writer" s_l_writer A.l_writer fd.l_writer
  b_l_writer : L2.Binds K fd.l_writer p_l_writer []
  F_l_wrote : Fun K "_law_wrote" "_law_wrote" s_l_wrote A.l_wrote fd.l_wrote
  b_l_wrote : L2.Binds K fd.l_wrote p_l_wrote []
  F_l_words : Fun K "_law_words" "_law_words" s_l_words A.l_words fd.l_words
  b_l_words : L2.Binds K fd.l_words p_l_words []
  F_l_one_right : Fun K "_law_one_right" "_law_one_right" s_l_one_right A.l_one_right fd.l_one_right
  b_l_one_right : L2.Binds K fd.l_one_right p_l_one_right []
  F_l_equal_right : Fun K "_law_equal_right" "_law_equal_right" s_l_equal_right A.l_equal_right fd.l_equal_right
  b_l_equal_right : L2.Binds K fd.l_equal_right p_l_equal_right []
  F_l_right : Fun K "_law_right" "_law_right" s_l_right A.l_right fd.l_right
  b_l_right : L2.Binds K fd.l_right p_l_right []
  F_law : Fun K "law" "law" s_law A.law fd.law
  b_law : L2.Binds K fd.law p_law []
end K6

set_option Elab.async false
set_option linter.all false
set_option maxRecDepth 100000
set_option maxHeartbeats 4000000
namespace K6
open PySem PySem.Spec PyProof.Rows L2 Rw
/-! ### data that stands in the heap -/
section
variable {K : PySem.W.Frag} {H H' H1 : Hp}
theorem sqL_mono (s : Same H H') {a : Addr} {xs : List V} (h : SqL K H a xs) : SqL K H' a xs := s.seq h
theorem sqT_mono (s : Same H H') {a : Addr} {xs : List V} (h : SqT K H a xs) : SqT K H' a xs := by
  rcases h with (h | ⟨o, h⟩) | h
  · exact .inl (.inl (s _ _ h))
  · exact .inl (.inr ⟨o, s _ _ h⟩)
  · exact .inr h
mutual
theorem dp_mono (s : Same H H') : ∀ (d : PyData) (v : V), Dp K H v d → Dp K H' v d
  | .none, _, h => by cases h; exact .non
  | .bool b, _, h => by cases h; exact .bl b
  | .int i, _, h => by cases h; exact .int i
  | .str x, _, h => by cases h; exact .str x
  | .list ds, _, h => by
    cases h with
    | lst a b => exact .lst (sqL_mono s a) (dps_mono s ds _ b)
  | .tuple ds, _, h => by
    cases h with
    | tup a b => exact .tup (sqT_mono s a) (dps_mono s ds _ b)
  | .dict _, _, h => by cases h
theorem dps_mono (s : Same H H') : ∀ (ds : List PyData) (vs : List V), DpAll K H vs ds → DpAll K H' vs ds
  | [], _, h => by cases h; exact .nil
  | d :: ds, _, h => by
    cases h with
    | cons a b => exact .cons (dp_mono s d _ a) (dps_mono s ds _ b)
end
theorem dps_len : ∀ {vs : List V} {ds : List PyData}, DpAll K H vs ds → vs.length = ds.length
  | _, _, .nil => rfl
  | _, _, .cons _ b => by
    show _ + 1 = _ + 1
    rw [dps_len b]
theorem dps_get : ∀ {vs : List V} {ds : List PyData} {i : Nat} {d : PyData}, DpAll K H vs ds → ds[i]? = some d → ∃ v, vs[i]? = some v ∧ Dp K H v d
  | _, _, _, _, .nil, h => by simp at h
  | _, _, 0, _, .cons a b, h => by
    have e := Option.some.inj h
    subst e
    exact ⟨_, rfl, a⟩
  | _, _, i + 1, _, .cons a b, h => dps_get (i := i) b h
theorem dps_getV : ∀ {vs : List V} {ds : List PyData} {i : Nat} {v : V}, DpAll K H vs ds → vs[i]? = some v → ∃ d, ds[i]? = some d ∧ Dp K H v d
  | _, _, _, _, .nil, h => by simp at h
  | _, _, 0, _, .cons a b, h => by
    have e := Option.some.inj h
    subst e
    exact ⟨_, rfl, a⟩
  | _, _, i + 1, _, .cons a b, h => dps_getV (i := i) b h
theorem dps_snoc : ∀ {vs : List V} {ds : List PyData} {v : V} {d : PyData}, DpAll K H vs ds → Dp K H v d → DpAll K H (vs ++ [v]) (ds ++ [d])
  | _, _, _, _, .nil, h => .cons h .nil
  | _, _, _, _, .cons a b, h => .cons a (dps_snoc b h)
theorem dps_app : ∀ {vs us : List V} {ds es : List PyData}, DpAll K H vs ds → DpAll K H us es → DpAll K H (vs ++ us) (ds ++ es)
  | _, _, _, _, .nil, h => h
  | _, _, _, _, .cons a b, h => .cons a (dps_app b h)
theorem dps_ints : ∀ {vs : List V} {ns : List Int}, DpAll K H vs (ns.map PyData.int) → vs = ns.map V.int
  | _, [], h => by cases h; rfl
  | _, n :: ns, h => by
    cases h with
    | cons a b =>
      cases a
      rw [dps_ints b]
      rfl
theorem ints_dps : ∀ (ns : List Int), DpAll K H (ns.map V.int) (ns.map PyData.int)
  | [] => .nil
  | n :: ns => .cons (.int n) (ints_dps ns)
theorem dps_strs : ∀ {vs : List V} {ns : List Str}, DpAll K H vs (ns.map PyData.str) → vs = ns.map V.str
  | _, [], h => by cases h; rfl
  | _, n :: ns, h => by
    cases h with
    | cons a b =>
      cases a
      rw [dps_strs b]
      rfl
theorem strs_dps : ∀ (ns : List Str), DpAll K H (ns.map V.str) (ns.map PyData.str)
  | [] => .nil
  | n :: ns => .cons (.str n) (strs_dps ns)
def vO : Option Nat → V
  | none => .non
  | some n => .int (n : Int)
def dO : Option Nat → PyData
  | none => .none
  | some n => .int (n : Int)
theorem dps_opts : ∀ {vs : List V} {ns : List (Option Nat)}, DpAll K H vs (ns.map dO) → vs = ns.map vO
  | _, [], h => by cases h; rfl
  | _, none :: ns, h => by
    cases h with
    | cons a b =>
      cases a
      rw [dps_opts b]
      rfl
  | _, some n :: ns, h => by
    cases h with
    | cons a b =>
      cases a
      rw [dps_opts b]
      rfl
theorem opts_dps : ∀ (ns : List (Option Nat)), DpAll K H (ns.map vO) (ns.map dO)
  | [] => .nil
  | none :: ns => .cons .non (opts_dps ns)
  | some n :: ns => .cons (.int n) (opts_dps ns)
theorem dp_tup {v : V} {ds : List PyData} (h : Dp K H v (.tuple ds)) : ∃ a xs, v = .ref a ∧ SqT K H a xs ∧ DpAll K H xs ds := by
  cases h with
  | tup a b => exact ⟨_, _, rfl, a, b⟩
theorem dp_lst {v : V} {ds : List PyData} (h : Dp K H v (.list ds)) : ∃ a xs, v = .ref a ∧ SqL K H a xs ∧ DpAll K H xs ds := by
  cases h with
  | lst a b => exact ⟨_, _, rfl, a, b⟩
/-! ### heaps -/
theorem same_upd {p : Addr} {o : HO} (h : H p = none) : Same H (upd H p o) := fun b x e => by
  rw [upd_ne (ne_of_none e h)]
  exact e
/-- a new object, changed later -/
theorem same_put {p : Addr} {o : HO} (s : Same H H1) (h : H p = none) : Same H (upd H1 p o) := fun b x e => by
  rw [upd_ne (ne_of_none e h)]
  exact s b x e
theorem lst_of {p : Addr} {xs : List V} (h : H p = some (.lst xs)) : SqL K H p xs := .inl (.inl h)
theorem tup_of {p : Addr} {xs : List V} (h : H p = some (.tup xs)) : SqT K H p xs := .inl (.inl h)
theorem szl {n : Nat} (h : n ≤ 100000) : n ≤ sizeLine := Nat.le_trans h (by decide)
theorem szt {n : Nat} (h : n < 100000) : n < sizeLine := Nat.lt_of_lt_of_le h (by decide)
/-- the heap without one object -/
def del (b : Addr) (H : Hp) : Hp := fun x => if x = b then none else H x
theorem del_same (b : Addr) : Same (del b H) H := fun x o e => by
  unfold del at e
  by_cases h : x = b
  · rw [if_pos h] at e
    cases e
  · rw [if_neg h] at e
    exact e
theorem del_ne {b x : Addr} (h : x ≠ b) : del b H x = H x := if_neg h
theorem del_mono {b : Addr} (s : Same H H') : Same (del b H) (del b H') := fun x o e => by
  unfold del at e ⊢
  by_cases h : x = b
  · rw [if_pos h] at e
    cases e
  · rw [if_neg h] at e ⊢
    exact s x o e
/-- what a draw may change: the barrel alone -/
def Keep (b : Addr) (H H' : Hp) : Prop := Same (del b H) (del b H')
theorem Keep.refl (b : Addr) (H : Hp) : Keep b H H := Same.refl _
theorem Keep.trans {b : Addr} {H2 : Hp} (a : Keep b H H1) (c : Keep b H1 H2) : Keep b H H2 := Same.trans a c
theorem Keep.of {b : Addr} (s : Same H H') : Keep b H H' := del_mono s
theorem keep_upd {b : Addr} {o : HO} : Keep b H (upd H b o) := fun x u e => by
  have hx : x ≠ b := by
    intro z
    unfold del at e
    rw [if_pos z] at e
    cases e
  rw [del_ne hx] at e ⊢
  rw [upd_ne hx]
  exact e
theorem del_none {b : Addr} : del b H b = none := if_pos rfl
/-- an object that is new is no barrel, and is not told ahead -/
theorem Keep.get {b x : Addr} {o : HO} (k : Keep b H H') (h : x ≠ b) (e : H x = some o) : H' x = some o := by
  have z := k x o (by rw [del_ne h]; exact e)
  rw [del_ne h] at z
  exact z
end
end K6

set_option Elab.async false
set_option linter.all false
set_option maxRecDepth 100000
set_option maxHeartbeats 4000000
namespace K6
open PySem PySem.Spec PyProof.Rows L2 Rw
/-! ### comprehensions: what a turn adds, and the whole -/
section
variable {K : PySem.W.Frag} {H : Hp} {σ : L2.St} {tt : TT} {te : TE} {vs : List Nat} {j : Nat} {Q : VK}
def pre (st : Nat → List V) (n : Nat) : List V := (List.range n).flatMap st
theorem pre_succ (st : Nat → List V) (n : Nat) : pre st (n + 1) = pre st n ++ st n := by
  unfold pre
  rw [List.range_succ, List.flatMap_append]
  simp
theorem pre_len {st : Nat → List V} (h : ∀ i, (st i).length ≤ 1) : ∀ n, (pre st n).length ≤ n
  | 0 => Nat.le_refl 0
  | n + 1 => by
    rw [pre_succ, List.length_append]
    have a := pre_len h n
    have b := h n
    omega
theorem pre_map {f : Nat → V} (n : Nat) : pre (fun i => [f i]) n = (List.range n).map f := by
  unfold pre
  induction n with
  | zero => rfl
  | succ n ih => rw [List.range_succ, List.flatMap_append, List.map_append, ih]; rfl
/-- a turn: what is added is [y], or nothing -/
def Turn1 (tt : TT) (te : TE) (σ : L2.St) (H : Hp) (s : List V) : Prop := ∀ H1 (R : V → Hp → Prop) (N : Hp → Prop), Same H H1 → (∀ y H2, s = [y] → Same H1 H2 → R y H2) → (∀ H2, s = [] → Same H1 H2 → N H2) →
  tt σ H1 (fun b H2 => if b = true then te σ H2 R else N H2)
theorem lcG (J : It) (n : Nat) (xs : Nat → V) (st : Nat → List V) (hst : ∀ i, (st i).length ≤ 1) (hn : n < 100000)
    (hgo : ∀ i H1, i < n → Same H H1 → J.go i H1) (hstop : ∀ H1, Same H H1 → J.stop n H1) (hyld : ∀ i H1 x H', i < n → Same H H1 → J.yld i H1 x H' → H' = H1 ∧ x = xs i)
    (hw : ∀ x, wipe ((wipe σ vs).set j (some x)) vs = wipe σ vs) (turn : ∀ i, i < n → Turn1 tt te ((wipe σ vs).set j (some (xs i))) H (st i))
    (fin : ∀ D H1, H D = none → Same H H1 → H1 D = some (.lst (pre st n)) → Q (.ref D) H1) :
    ∀ D, H D = none → ∃ W : Nat → Nat → Hp → Prop, (∃ m, W 0 m (upd H D (.lst []))) ∧ ∀ i m H, W i m H →
      (J.stop i H ∧ Q (.ref D) H) ∨ (J.go i H ∧ ∃ Nx : Hp → Prop, (∀ H', Nx H' → ∃ m', m' < m ∧ W (i + 1) m' H') ∧ ∀ x H', J.yld i H x H' → gName j x (wipe σ vs) H' fun σ2 H2 => wipe σ2 vs = wipe σ vs ∧ tt σ2 H2 fun b H3 =>
        if b = true then te σ2 H3 fun y H4 => ∃ acc, H4 D = some (.lst acc) ∧ acc.length < sizeLine ∧ Nx (upd H4 D (.lst (acc ++ [y]))) else Nx H3) := by
  intro D hD
  refine ⟨fun i m H1 => m = n - i ∧ i ≤ n ∧ Same H H1 ∧ H1 D = some (.lst (pre st i)), ⟨n, rfl, Nat.zero_le _, same_upd hD, upd_same⟩, ?_⟩
  rintro i m H1 ⟨rfl, hi, s1, h1⟩
  by_cases c : i < n
  · refine .inr ⟨hgo i H1 c s1, fun H2 => Same H H2 ∧ H2 D = some (.lst (pre st (i + 1))), fun H2 h2 => ⟨n - (i + 1), by omega, rfl, c, h2.1, h2.2⟩, fun x H' hy => ?_⟩
    obtain ⟨rfl, rfl⟩ := hyld i H1 x H' c s1 hy
    refine ⟨hw _, ?_⟩
    refine turn i c H' _ _ s1 (fun y H2 hs s2 => ?_) (fun H2 hs s2 => ?_)
    · refine ⟨pre st i, s2 D _ h1, szt (by have := pre_len hst i; omega), ?_, ?_⟩
      · exact same_put (s1.trans s2) hD
      · rw [pre_succ, hs]
        exact upd_same
    · refine ⟨s1.trans s2, ?_⟩
      rw [pre_succ, hs, List.append_nil]
      exact s2 D _ h1
  · have e : i = n := by omega
    subst e
    exact .inl ⟨hstop H1 s1, fin D H1 hD s1 h1⟩
theorem getD_of {xs : List V} {i : Nat} {x : V} (h : xs[i]? = some x) : xs.getD i .non = x := by
  rw [List.getD_eq_getElem?_getD, h]
  rfl
theorem lt_of_get {α : Type} {xs : List α} {i : Nat} {x : α} (h : xs[i]? = some x) : i < xs.length := (List.getElem?_eq_some_iff.mp h).1
/-- over a tuple -/
theorem cT {tl : TE} {a : Addr} {xs : List V} (st : Nat → List V) (htl : ∀ R : VK, R (.ref a) H → tl σ H R) (hx : SqT K H a xs) (hst : ∀ i, (st i).length ≤ 1) (hn : xs.length < 100000)
    (hw : ∀ x, wipe ((wipe σ vs).set j (some x)) vs = wipe σ vs) (turn : ∀ i x, xs[i]? = some x → Turn1 tt te ((wipe σ vs).set j (some x)) H (st i))
    (fin : ∀ D H1, H D = none → Same H H1 → H1 D = some (.lst (pre st xs.length)) → Q (.ref D) H1) : tLc (iTup K tl) (gName j) tt te vs σ H Q := by
  refine htl _ ⟨a, rfl, ⟨xs, hx⟩, ?_⟩
  refine lcG (Itt K a) xs.length (fun i => xs.getD i .non) st hst hn (fun i H1 hi s => ?_) (fun H1 s => ?_) (fun i H1 x H' hi s hy => ?_) hw (fun i hi => ?_) fin
  · exact ⟨xs, xs[i], sqT_mono s hx, by simp [hi]⟩
  · exact ⟨xs, sqT_mono s hx, Nat.le_refl _⟩
  · obtain ⟨e, y⟩ := hy
    exact ⟨e, (getD_of (y xs (sqT_mono s hx))).symm⟩
  · have h : xs[i]? = some (xs.getD i .non) := by
      rw [List.getElem?_eq_getElem hi, List.getD_eq_getElem?_getD, List.getElem?_eq_getElem hi]
      rfl
    exact turn i _ h
/-- over a list that a call has handed back -/
theorem lL {Qd : Addr → Hp → Prop} {a : Addr} {xs : List V} (st : Nat → List V) (hx : SqL K H a xs) (hst : ∀ i, (st i).length ≤ 1) (hn : xs.length < 100000)
    (hw : ∀ x, wipe ((wipe σ vs).set j (some x)) vs = wipe σ vs) (turn : ∀ i x, xs[i]? = some x → Turn1 tt te ((wipe σ vs).set j (some x)) H (st i))
    (fin : ∀ D H1, H D = none → Same H H1 → H1 D = some (.lst (pre st xs.length)) → Qd D H1) :
    ∀ D, H D = none → ∃ W : Nat → Nat → Hp → Prop, (∃ m, W 0 m (upd H D (.lst []))) ∧ ∀ i m H, W i m H →
      ((Itl K a).stop i H ∧ Qd D H) ∨ ((Itl K a).go i H ∧ ∃ Nx : Hp → Prop, (∀ H', Nx H' → ∃ m', m' < m ∧ W (i + 1) m' H') ∧ ∀ x H', (Itl K a).yld i H x H' → gName j x (wipe σ vs) H' fun σ2 H2 => wipe σ2 vs = wipe σ vs ∧ tt σ2 H2 fun b H3 =>
        if b = true then te σ2 H3 fun y H4 => ∃ acc, H4 D = some (.lst acc) ∧ acc.length < sizeLine ∧ Nx (upd H4 D (.lst (acc ++ [y]))) else Nx H3) := by
  refine lcG (Q := fun v H => match v with | .ref D => Qd D H | _ => False) (Itl K a) xs.length (fun i => xs.getD i .non) st hst hn (fun i H1 hi s => ?_) (fun H1 s => ?_) (fun i H1 x H' hi s hy => ?_) hw (fun i hi => ?_) fin
  · exact ⟨xs, xs[i], sqL_mono s hx, by simp [hi]⟩
  · exact ⟨xs, sqL_mono s hx, Nat.le_refl _⟩
  · obtain ⟨e, y⟩ := hy
    exact ⟨e, (getD_of (y xs (sqL_mono s hx))).symm⟩
  · have h : xs[i]? = some (xs.getD i .non) := by
      rw [List.getElem?_eq_getElem hi, List.getD_eq_getElem?_getD, List.getElem?_eq_getElem hi]
      rfl
    exact turn i _ h
/-- over a list -/
theorem cL {tl : TE} {a : Addr} {xs : List V} (st : Nat → List V) (htl : ∀ R : VK, R (.ref a) H → tl σ H R) (hx : SqL K H a xs) (hst : ∀ i, (st i).length ≤ 1) (hn : xs.length < 100000)
    (hw : ∀ x, wipe ((wipe σ vs).set j (some x)) vs = wipe σ vs) (turn : ∀ i x, xs[i]? = some x → Turn1 tt te ((wipe σ vs).set j (some x)) H (st i))
    (fin : ∀ D H1, H D = none → Same H H1 → H1 D = some (.lst (pre st xs.length)) → Q (.ref D) H1) : tLc (iList K tl) (gName j) tt te vs σ H Q := by
  refine htl _ ⟨a, rfl, ⟨xs, hx⟩, ?_⟩
  refine lcG (Itl K a) xs.length (fun i => xs.getD i .non) st hst hn (fun i H1 hi s => ?_) (fun H1 s => ?_) (fun i H1 x H' hi s hy => ?_) hw (fun i hi => ?_) fin
  · exact ⟨xs, xs[i], sqL_mono s hx, by simp [hi]⟩
  · exact ⟨xs, sqL_mono s hx, Nat.le_refl _⟩
  · obtain ⟨e, y⟩ := hy
    exact ⟨e, (getD_of (y xs (sqL_mono s hx))).symm⟩
  · have h : xs[i]? = some (xs.getD i .non) := by
      rw [List.getElem?_eq_getElem hi, List.getD_eq_getElem?_getD, List.getElem?_eq_getElem hi]
      rfl
    exact turn i _ h
/-- over range(n) -/
theorem cR {ta : TA} {n : Nat} {m : Int} (st : Nat → List V) (hm : m.toNat = n) (hb : -1000 ≤ m) (hta : ∀ R : List V → Hp → Prop, R [.int m] H → ta σ H R) (hst : ∀ i, (st i).length ≤ 1) (hn : n < 100000)
    (hw : ∀ x, wipe ((wipe σ vs).set j (some x)) vs = wipe σ vs) (turn : ∀ i : Nat, i < n → Turn1 tt te ((wipe σ vs).set j (some (.int (i : Int)))) H (st i))
    (fin : ∀ D H1, H D = none → Same H H1 → H1 D = some (.lst (pre st n)) → Q (.ref D) H1) : tLc (iRng1 ta) (gName j) tt te vs σ H Q := by
  refine hta _ ⟨m, rfl, by omega, by omega, ?_⟩
  rw [hm]
  refine lcG (Itr 0 n) n (fun i => .int (i : Int)) st hst hn (fun i H1 hi s => hi) (fun H1 s => Nat.le_refl _) (fun i H1 x H' hi s hy => ?_) hw turn fin
  obtain ⟨e, y⟩ := hy
  refine ⟨e, ?_⟩
  rw [y, Int.zero_add]
/-- over a text -/
theorem cS {tl : TE} {z : Str} (st : Nat → List V) (htl : ∀ R : VK, R (.str z) H → tl σ H R) (hst : ∀ i, (st i).length ≤ 1) (hn : z.cps.size < 100000)
    (hw : ∀ x, wipe ((wipe σ vs).set j (some x)) vs = wipe σ vs) (turn : ∀ i c, z.cps[i]? = some c → Turn1 tt te ((wipe σ vs).set j (some (.str ⟨#[c]⟩))) H (st i))
    (fin : ∀ D H1, H D = none → Same H H1 → H1 D = some (.lst (pre st z.cps.size)) → Q (.ref D) H1) : tLc (iStr tl) (gName j) tt te vs σ H Q := by
  refine htl _ ⟨z, rfl, ?_⟩
  refine lcG (Its z) z.cps.size (fun i => .str ⟨#[z.cps.getD i 0]⟩) st hst hn (fun i H1 hi s => hi) (fun H1 s => Nat.le_refl _) (fun i H1 x H' hi s hy => ?_) hw (fun i hi => ?_) fin
  · obtain ⟨e, c, hc, rfl⟩ := hy
    refine ⟨e, ?_⟩
    simp [Array.getD_eq_getD_getElem?, hc]
  · have h : z.cps[i]? = some (z.cps.getD i 0) := by
      simp [Array.getD_eq_getD_getElem?, hi]
    exact turn i _ h
/-- no test -/
theorem turn_yes {y : V} (h : ∀ H1 (R : V → Hp → Prop), Same H H1 → (∀ H2, Same H1 H2 → R y H2) → te σ H1 R) : Turn1 tYes te σ H [y] := by
  intro H1 R N s hy hn
  show (if true = true then te σ H1 R else N H1)
  rw [if_pos rfl]
  exact h H1 R s fun H2 s2 => hy y H2 rfl s2
theorem replicate_pre (n : Nat) (v : V) : pre (fun _ => [v]) n = List.replicate n v := by
  rw [pre_map]
  induction n with
  | zero => rfl
  | succ n ih => rw [List.range_succ, List.map_append, ih, List.replicate_succ']; rfl
theorem all_true (n : Nat) : (List.replicate n true).all id = true := by simp
theorem bls (n : Nat) : List.replicate n (V.bl true) = (List.replicate n true).map V.bl := by simp
end
/-! ### comprehensions whose items are new lists -/
section
variable {K : PySem.W.Frag} {H : Hp} {σ : L2.St} {te : TE} {vs : List Nat} {j : Nat} {Q : VK}
/-- lists that stand at the items of a list: what is at each place -/
def Hold (H : Hp) (acc : List V) (n : Nat) (ys : Nat → List V) : Prop := acc.length = n ∧ ∀ k, k < n → ∃ p, acc[k]? = some (.ref p) ∧ H p = some (.lst (ys k))
theorem Hold.mono {H H' : Hp} {acc : List V} {n : Nat} {ys : Nat → List V} (h : Hold H acc n ys) (s : Same H H') : Hold H' acc n ys :=
  ⟨h.1, fun k hk => let ⟨p, e, hp⟩ := h.2 k hk; ⟨p, e, s _ _ hp⟩⟩
theorem Hold.snoc {acc : List V} {n : Nat} {ys : Nat → List V} {p : Addr} (h : Hold H acc n ys) (hp : H p = some (.lst (ys n))) : Hold H (acc ++ [.ref p]) (n + 1) ys := by
  refine ⟨by rw [List.length_append, h.1]; rfl, fun k hk => ?_⟩
  by_cases c : k < n
  · obtain ⟨q, e, hq⟩ := h.2 k c
    exact ⟨q, by rw [List.getElem?_append_left (by rw [h.1]; exact c)]; exact e, hq⟩
  · have e : k = n := by omega
    subst e
    refine ⟨p, ?_, hp⟩
    rw [List.getElem?_append_right (by rw [h.1]; exact Nat.le_refl _), h.1, Nat.sub_self]
    rfl
theorem yes_go {σ : L2.St} {H : Hp} {f g : Hp → Prop} (h : f H) : tYes σ H (fun b H2 => if b = true then f H2 else g H2) := by
  show (if true = true then f H else g H)
  rw [if_pos rfl]
  exact h
def TurnN (te : TE) (σ : L2.St) (H : Hp) (ys : List V) : Prop := ∀ H1 (R : V → Hp → Prop), Same H H1 → (∀ p H2, H1 p = none → Same H1 H2 → H2 p = some (.lst ys) → R (.ref p) H2) → te σ H1 R
theorem lcN (J : It) (n : Nat) (xs : Nat → V) (ys : Nat → List V) (hn : n < 100000)
    (hgo : ∀ i H1, i < n → Same H H1 → J.go i H1) (hstop : ∀ H1, Same H H1 → J.stop n H1) (hyld : ∀ i H1 x H', i < n → Same H H1 → J.yld i H1 x H' → H' = H1 ∧ x = xs i)
    (hw : ∀ x, wipe ((wipe σ vs).set j (some x)) vs = wipe σ vs) (turn : ∀ i, i < n → TurnN te ((wipe σ vs).set j (some (xs i))) H (ys i))
    (fin : ∀ D acc H1, H D = none → Same H H1 → H1 D = some (.lst acc) → Hold (del D H1) acc n ys → Q (.ref D) H1) :
    ∀ D, H D = none → ∃ W : Nat → Nat → Hp → Prop, (∃ m, W 0 m (upd H D (.lst []))) ∧ ∀ i m H, W i m H →
      (J.stop i H ∧ Q (.ref D) H) ∨ (J.go i H ∧ ∃ Nx : Hp → Prop, (∀ H', Nx H' → ∃ m', m' < m ∧ W (i + 1) m' H') ∧ ∀ x H', J.yld i H x H' → gName j x (wipe σ vs) H' fun σ2 H2 => wipe σ2 vs = wipe σ vs ∧ tYes σ2 H2 fun b H3 =>
        if b = true then te σ2 H3 fun y H4 => ∃ acc, H4 D = some (.lst acc) ∧ acc.length < sizeLine ∧ Nx (upd H4 D (.lst (acc ++ [y]))) else Nx H3) := by
  intro D hD
  refine ⟨fun i m H1 => m = n - i ∧ i ≤ n ∧ Same H H1 ∧ ∃ acc, H1 D = some (.lst acc) ∧ Hold (del D H1) acc i ys, ⟨n, rfl, Nat.zero_le _, same_upd hD, [], upd_same, rfl, fun k hk => absurd hk (Nat.not_lt_zero k)⟩, ?_⟩
  rintro i m H1 ⟨rfl, hi, s1, acc, h1, hold⟩
  by_cases c : i < n
  · refine .inr ⟨hgo i H1 c s1, fun H2 => Same H H2 ∧ ∃ acc, H2 D = some (.lst acc) ∧ Hold (del D H2) acc (i + 1) ys, fun H2 h2 => ⟨n - (i + 1), by omega, rfl, c, h2.1, h2.2⟩, fun x H' hy => ?_⟩
    obtain ⟨rfl, rfl⟩ := hyld i H1 x H' c s1 hy
    refine ⟨hw _, ?_⟩
    refine yes_go ?_
    refine turn i c H' _ s1 (fun p H2 np s2 hp => ?_)
    refine ⟨acc, s2 D _ h1, szt (by rw [hold.1]; omega), same_put (s1.trans s2) hD, acc ++ [.ref p], upd_same, ?_⟩
    have ne : p ≠ D := fun e => by
      rw [e, h1] at np
      cases np
    have hdel : Same (del D H2) (del D (upd H2 D (.lst (acc ++ [.ref p])))) := keep_upd
    refine ((hold.mono (del_mono s2)).snoc ?_).mono hdel
    rw [del_ne ne]
    exact hp
  · have e : i = n := by omega
    subst e
    exact .inl ⟨hstop H1 s1, fin D acc H1 hD s1 h1 hold⟩
theorem cTN {tl : TE} {a : Addr} {xs : List V} (ys : Nat → List V) (htl : ∀ R : VK, R (.ref a) H → tl σ H R) (hx : SqT K H a xs) (hn : xs.length < 100000)
    (hw : ∀ x, wipe ((wipe σ vs).set j (some x)) vs = wipe σ vs) (turn : ∀ i x, xs[i]? = some x → TurnN te ((wipe σ vs).set j (some x)) H (ys i))
    (fin : ∀ D acc H1, H D = none → Same H H1 → H1 D = some (.lst acc) → Hold (del D H1) acc xs.length ys → Q (.ref D) H1) : tLc (iTup K tl) (gName j) tYes te vs σ H Q := by
  refine htl _ ⟨a, rfl, ⟨xs, hx⟩, ?_⟩
  refine lcN (Itt K a) xs.length (fun i => xs.getD i .non) ys hn (fun i H1 hi s => ?_) (fun H1 s => ?_) (fun i H1 x H' hi s hy => ?_) hw (fun i hi => ?_) fin
  · exact ⟨xs, xs[i], sqT_mono s hx, by simp [hi]⟩
  · exact ⟨xs, sqT_mono s hx, Nat.le_refl _⟩
  · obtain ⟨e, y⟩ := hy
    exact ⟨e, (getD_of (y xs (sqT_mono s hx))).symm⟩
  · have h : xs[i]? = some (xs.getD i .non) := by
      rw [List.getElem?_eq_getElem hi, List.getD_eq_getElem?_getD, List.getElem?_eq_getElem hi]
      rfl
    exact turn i _ h
end
/-! ### openers -/
section
variable {te ta : TE} {D : Ends} {σ : L2.St} {H : Hp} {Q : VK} {r : List V → Hp → VK → Prop} {i : Nat}
theorem g_ret (h : te σ H D.rt) : tRet te D σ H := h
theorem g_asg (h : te σ H fun x H1 => D.nx (σ.set i (some x)) H1) : tAsg te (gName i) D σ H := h
theorem g_cb (h : ta σ H fun x H1 => r [x] H1 Q) : tCB r (tCons ta tNil) σ H Q := h
theorem g_andV {tb : TE} (h : ta σ H fun x H1 => ∃ c, x = .bl c ∧ if c = true then tb σ H1 Q else Q (.bl false) H1) : tAndV ta tb σ H Q := h
theorem g_via {K : PySem.W.Frag} {d : PyData} (h : ∀ Q' : VK, (∀ vf H2, Same H H2 → Dp K H2 vf d → Q' vf H2) → te σ H Q') (rest : ∀ vf H2, Same H H2 → Dp K H2 vf d → Q vf H2) : te σ H Q := h Q rest
theorem g_arg {f : List V → Hp → Prop} (h : te σ H fun x H1 => f [x] H1) : tCons te tNil σ H f := h
theorem g_next (h : D.nx σ H) : tNext D σ H := h
theorem g_seq {t u : TS} (h : t { D with nx := u D } σ H) : tSeq t u D σ H := h
end
end K6

set_option Elab.async false
set_option linter.all false
set_option maxRecDepth 100000
set_option maxHeartbeats 4000000
namespace K6
open PySem PySem.Spec PyProof.Rows L2 Rw
variable {P : Program} {w : World} {K : PySem.W.Frag} {mg : Str → Option Value} {base : Heap} {A : Ad} {fd : Fds}
def spIsInt : Sp := fun vs H Q _ => ∃ i : Int, vs = [.int i] ∧ Q (.bl true) H
theorem ok_is_integer (T : Txt K mg A) (U : Funs K A fd) : FnOk P w K mg base CX0 1 A.is_integer fd.is_integer p_is_integer (spIsInt) := by
  refine U.F_is_integer.ok sc_is_integer (fun vs H Q E h => ?_) (fun cdv A0 outer s H vs Q E hr h => ?_)
  · obtain ⟨i, rfl, _⟩ := h
    rfl
  · have hu := hu_of hr
    obtain ⟨i, rfl, q⟩ := h
    refine ⟨_, (pss_one (ps_ret (pe_and (pe_callB (w_isi (K := K)) (by rfl) T.b_isinstance (by decide +kernel) (pa_cons (pv 0) (pa_cons (pe_bltn (v := .ty "int") (u := .type "int") (by rfl) T.b_int (by decide +kernel) rfl) pa_nil))) (pe_one (pe_not (pe_callB (w_isi (K := K)) (by rfl) T.b_isinstance (by decide +kernel) (pa_cons (pv 0) (pa_cons (pe_bltn (v := .ty "bool") (u := .type "bool") (by rfl) T.b_bool (by decide +kernel) rfl) pa_nil)))))))), ?_⟩
    refine ⟨_, rfl, .int i, .ty "int", .type "int", .type "int", true, rfl, .ty _, .base (.int i), kit_ty (by decide +kernel), true, rfl, ?_⟩
    refine iteT ?_
    refine ⟨_, rfl, .int i, .ty "bool", .type "int", .type "bool", false, rfl, .ty _, .base (.int i), kit_ty (by decide +kernel), false, rfl, ?_⟩
    exact q
def spBetween : Sp := fun vs H Q _ => ∃ i lo hi : Int, vs = [.int i, .int lo, .int hi] ∧ Q (.bl (decide (lo ≤ i) && decide (i ≤ hi))) H
theorem ok_is_between (T : Txt K mg A) (U : Funs K A fd) : FnOk P w K mg base CX0 4 A.is_between fd.is_between p_is_between (spBetween) := by
  have b_is_integer := U.b_is_integer
  have G_is_integer := ok_is_integer (P := P) (w := w) (base := base) T U
  refine U.F_is_between.ok sc_is_between (fun vs H Q E h => ?_) (fun cdv A0 outer s H vs Q E hr h => ?_)
  · obtain ⟨i, lo, hi, rfl, _⟩ := h
    rfl
  · have hu := hu_of hr
    obtain ⟨i, lo, hi, rfl, q⟩ := h
    refine ⟨_, (pss_one (ps_ret (pe_and (pe_call G_is_integer (hr.mono (by decide)) (by rfl) T.m_is_integer T.k_is_integer b_is_integer .nil pass0 (pa_cons (pv 0) pa_nil)) (pe_one (pe_chain op_le op_le (pv 1) (pv 0) (pv 2)))))), ?_⟩
    refine ⟨_, rfl, i, rfl, true, rfl, ?_⟩
    refine iteT ?_
    refine ⟨_, rfl, _, rfl, lo, i, rfl, rfl, _, rfl, ?_⟩
    by_cases c : lo ≤ i
    · rw [decide_eq_true c] at q ⊢
      refine iteT ?_
      exact ⟨_, rfl, i, hi, rfl, rfl, q⟩
    · rw [decide_eq_false c] at q ⊢
      exact iteF q
/-- each less than the next -/
def Asc (ns : List Int) : Prop := ∀ (i : Nat) (x y : Int), ns[i]? = some x → ns[i + 1]? = some y → x < y
def spAsc (K : PySem.W.Frag) : Sp := fun vs H Q _ => ∃ (v : V) (ns : List Int), vs = [v] ∧ Dp K H v (.tuple (ns.map .int)) ∧ ns.length ≤ 1000 ∧ Asc ns ∧ ∀ H', Same H H' → Q (.bl true) H'
theorem ok_is_ascending (T : Txt K mg A) (U : Funs K A fd) : FnOk P w K mg base CX0 1 A.is_ascending fd.is_ascending p_is_ascending (spAsc K) := by
  refine U.F_is_ascending.ok sc_is_ascending (fun vs H Q E h => ?_) (fun cdv A0 outer s H vs Q E hr h => ?_)
  · obtain ⟨v, ns, rfl, _⟩ := h
    rfl
  · have hu := hu_of hr
    obtain ⟨v, ns, rfl, hd, hl, asc, q⟩ := h
    refine ⟨_, (pss_one (ps_ret (pe_callB (w_all (K := K) rfl) (by rfl) T.b_all (by decide +kernel) (pa_cons (pe_lc (own := [("at", 1)]) (g := gName 1) (tt := tYes) (by rfl) sc_is_ascending.nd (pi_range1 (by rfl) T.b_range (pa_cons (pe_op op_sub (pe_callB (w_len (K := K)) (by rfl) T.b_len (by decide +kernel) (pa_cons (pv 0) pa_nil)) pe_int) pa_nil)) (blkOk_by (own := [("at", 1)]) (by rfl)) (fun _ _ _ _ _ => (pg_name (i := 1) sc_is_ascending.nd rfl (Or.inl rfl))) (fun _ _ _ _ _ => pts_nil) (fun _ _ _ _ _ => (pe_cmpR op_lt (pe_ix (w_ixT (K := K)) (pv 0) (pv 1) (fun _ _ => rfl)) (pe_ix (w_ixT (K := K)) (pv 0) (pe_op op_add (pv 1) pe_int) (fun _ _ => rfl)) (nomark _)))) pa_nil)))), ?_⟩
    obtain ⟨a, xs, rfl, hx, hds⟩ := dp_tup hd
    obtain rfl := dps_ints hds
    refine g_ret (g_cb (cR (n := ns.length - 1) (m := (ns.length : Int) - 1) (fun _ => [.bl true]) (by omega) (by omega) (fun R r => ?_) (fun _ => Nat.le_refl 1) (by omega) (fun _ => rfl) (fun i hi => turn_yes fun H1 R s1 r => ?_) (fun D H1 _ s1 h1 => ?_)))
    · exact ⟨_, rfl, _, _, rfl, .inr ⟨_, hx, rfl⟩, _, 1, by rw [List.length_map], rfl, r⟩
    · have h1 : i < ns.length := by omega
      have h2 : i + 1 < ns.length := by omega
      have e1 : (ns.map V.int)[i]? = some (.int ns[i]) := by simp [h1]
      have e2 : (ns.map V.int)[i + 1]? = some (.int ns[i + 1]) := by simp [h2]
      have lt := asc i ns[i] ns[i + 1] (List.getElem?_eq_getElem h1) (List.getElem?_eq_getElem h2)
      refine ⟨_, rfl, _, rfl, _, _, _, _, rfl, rfl, sqT_mono s1 hx, atI_nat e1, _, rfl, _, rfl, _, _, rfl, rfl, _, _, _, _, rfl, rfl, sqT_mono s1 hx, atI_nat (j := i + 1) e2, _, _, rfl, rfl, ?_⟩
      show R (.bl (decide (ns[i] < ns[i + 1]))) H1
      rw [decide_eq_true lt]
      exact r H1 (Same.refl _)
    · rw [replicate_pre] at h1
      refine ⟨D, List.replicate (ns.length - 1) true, rfl, lst_of (by rw [← bls]; exact h1), ?_⟩
      rw [all_true]
      exact q H1 s1
theorem tupTy {H : Hp} {a : Addr} {xs : List V} (h : SqT K H a xs) : TyX K H (.ref a) (.type "tuple") := by
  rcases h with (h | ⟨o, h⟩) | h
  · exact .base (.tup h)
  · exact .fTuple h
  · obtain ⟨o, vs, n, h1, h2, _⟩ := h
    exact .kTuple h1 h2
def spGoals (K : PySem.W.Frag) : Sp := fun vs H Q _ => ∃ (v : V) (row : List (Option Nat)) (n : Nat), vs = [v, .int (row.length : Int), .int (n : Int)] ∧ Dp K H v (.tuple (row.map dO)) ∧ row.length ≤ 8 ∧
  (∀ g, some g ∈ row → g < n) ∧ ∀ H', Same H H' → Q (.bl true) H'
theorem ok_is_goals (T : Txt K mg A) (U : Funs K A fd) : FnOk P w K mg base CX0 7 A.is_goals fd.is_goals p_is_goals (spGoals K) := by
  have b_is_between := U.b_is_between
  have G_is_between := ok_is_between (P := P) (w := w) (base := base) T U
  refine U.F_is_goals.ok sc_is_goals (fun vs H Q E h => ?_) (fun cdv A0 outer s H vs Q E hr h => ?_)
  · obtain ⟨v, row, n, rfl, _⟩ := h
    rfl
  · have hu := hu_of hr
    obtain ⟨v, row, n, rfl, hd, hl, lt, q⟩ := h
    refine ⟨_, (pss_cons (ps_if (PW.pt (pw_or (pt_not (pt_val (pe_callB (w_isi (K := K)) (by rfl) T.b_isinstance (by decide +kernel) (pa_cons (pv 0) (pa_cons (pe_bltn (v := .ty "tuple") (u := .type "tuple") (by rfl) T.b_tuple (by decide +kernel) rfl) pa_nil))))) (pw_or1 (pt_cmpR op_ne (pe_callB (w_len (K := K)) (by rfl) T.b_len (by decide +kernel) (pa_cons (pv 0) pa_nil)) (pv 1) (nomark _))))) (pss_one (ps_ret pe_bl)) pss_nil)
       (pss_one (ps_ret (pe_callB (w_all (K := K) rfl) (by rfl) T.b_all (by decide +kernel) (pa_cons (pe_lc (own := [("goal", 3)]) (g := gName 3) (tt := tYes) (by rfl) sc_is_goals.nd (w_piT (K := K) (pv 0)) (blkOk_by (own := [("goal", 3)]) (by rfl)) (fun _ _ _ _ _ => (pg_name (i := 3) sc_is_goals.nd rfl (Or.inl rfl))) (fun _ _ _ _ _ => pts_nil) (fun _ _ _ _ _ => (pe_or (pe_cmpR op_isN (pv 3) pe_non (nomark _)) (pe_one (pe_call G_is_between (hr.mono (by decide)) (by rfl) T.m_is_between T.k_is_between b_is_between .nil pass0 (pa_cons (pv 3) (pa_cons pe_int (pa_cons (pe_op op_sub (pv 2) pe_int) pa_nil)))))))) pa_nil))))), ?_⟩
    obtain ⟨a, xs, rfl, hx, hds⟩ := dp_tup hd
    obtain rfl := dps_opts hds
    have hz : (row.map vO).length < 100000 := by rw [List.length_map]; omega
    -- if not isinstance(value, tuple) or len(value) != signs
    refine ⟨_, rfl, _, _, _, .type "tuple", true, rfl, .ty _, tupTy hx, kit_ty (by decide +kernel), true, rfl, ?_⟩
    refine iteF ?_
    refine ⟨_, rfl, _, _, rfl, .inr ⟨_, hx, rfl⟩, _, rfl, rfl, _, rfl, ?_⟩
    rw [List.length_map, decide_eq_true rfl]
    refine iteF (g_next ?_)
    dsimp only
    refine g_ret (g_cb (cT (xs := row.map vO) (fun _ => [.bl true]) (fun R r => ?_) hx (fun _ => Nat.le_refl 1) hz ?_ (fun i x hi => turn_yes fun H1 R s1 r => ?_) (fun D H1 _ s1 h1 => ?_)))
    · exact ⟨_, rfl, r⟩
    · exact fun _ => rfl
    · rw [List.getElem?_map] at hi
      cases e : row[i]? with
      | none => rw [e] at hi; cases hi
      | some o =>
        rw [e] at hi
        obtain rfl := Option.some.inj hi
        cases o with
        | none =>
          refine ⟨_, rfl, rfl, true, rfl, ?_⟩
          exact iteT (r H1 (Same.refl _))
        | some g =>
          have hg : g < n := lt g (List.mem_of_getElem? e)
          refine ⟨_, rfl, rfl, false, rfl, ?_⟩
          refine iteF ?_
          refine ⟨_, rfl, _, rfl, _, _, rfl, rfl, _, _, _, rfl, ?_⟩
          rw [decide_eq_true (show (0 : Int) ≤ (g : Int) by omega), decide_eq_true (show (g : Int) ≤ (n : Int) - 1 by omega)]
          exact r H1 (Same.refl _)
    · rw [replicate_pre] at h1
      refine ⟨D, List.replicate (row.map vO).length true, rfl, lst_of (by rw [← bls]; exact h1), ?_⟩
      rw [all_true]
      exact q H1 s1
def spStands (K : PySem.W.Frag) : Sp := fun vs H Q _ => ∃ (v : V) (ns : List Nat) (n : Nat), vs = [v, .int (n : Int)] ∧ Dp K H v (.tuple (ns.map fun (k : Nat) => .int (k : Int))) ∧ ns.length ≤ 1000 ∧ Asc (ns.map Int.ofNat) ∧
  (∀ g ∈ ns, g < n) ∧ ∀ H', Same H H' → Q (.bl true) H'
theorem nats_int (ns : List Nat) : (ns.map fun (k : Nat) => PyData.int (k : Int)) = (ns.map Int.ofNat).map PyData.int := by
  rw [List.map_map]
  rfl
theorem ok_is_stands (T : Txt K mg A) (U : Funs K A fd) : FnOk P w K mg base CX0 7 A.is_stands fd.is_stands p_is_stands (spStands K) := by
  have b_is_ascending := U.b_is_ascending
  have G_is_ascending := ok_is_ascending (P := P) (w := w) (base := base) T U
  have b_is_between := U.b_is_between
  have G_is_between := ok_is_between (P := P) (w := w) (base := base) T U
  refine U.F_is_stands.ok sc_is_stands (fun vs H Q E h => ?_) (fun cdv A0 outer s H vs Q E hr h => ?_)
  · obtain ⟨v, ns, n, rfl, _⟩ := h
    rfl
  · have hu := hu_of hr
    obtain ⟨v, ns, n, rfl, hd, hl, asc, lt, q⟩ := h
    refine ⟨_, (pss_cons (ps_if (pt_not (pt_val (pe_callB (w_isi (K := K)) (by rfl) T.b_isinstance (by decide +kernel) (pa_cons (pv 0) (pa_cons (pe_bltn (v := .ty "tuple") (u := .type "tuple") (by rfl) T.b_tuple (by decide +kernel) rfl) pa_nil))))) (pss_one (ps_ret pe_bl)) pss_nil)
       (pss_one (ps_ret (pe_and (pe_callB (w_all (K := K) rfl) (by rfl) T.b_all (by decide +kernel) (pa_cons (pe_lc (own := [("stand", 2)]) (g := gName 2) (tt := tYes) (by rfl) sc_is_stands.nd (w_piT (K := K) (pv 0)) (blkOk_by (own := [("stand", 2)]) (by rfl)) (fun _ _ _ _ _ => (pg_name (i := 2) sc_is_stands.nd rfl (Or.inl rfl))) (fun _ _ _ _ _ => pts_nil) (fun _ _ _ _ _ => (pe_call G_is_between (hr.mono (by decide)) (by rfl) T.m_is_between T.k_is_between b_is_between .nil pass0 (pa_cons (pv 2) (pa_cons pe_int (pa_cons (pe_op op_sub (pv 1) pe_int) pa_nil)))))) pa_nil)) (pe_one (pe_call G_is_ascending (hr.mono (by decide)) (by rfl) T.m_is_ascending T.k_is_ascending b_is_ascending .nil pass0 (pa_cons (pv 0) pa_nil))))))), ?_⟩
    have hd0 := hd
    rw [nats_int] at hd
    obtain ⟨a, xs, rfl, hx, hds⟩ := dp_tup hd
    obtain rfl := dps_ints hds
    have hz : ((ns.map Int.ofNat).map V.int).length < 100000 := by rw [List.length_map, List.length_map]; omega
    refine ⟨_, rfl, _, _, _, .type "tuple", true, rfl, .ty _, tupTy hx, kit_ty (by decide +kernel), true, rfl, ?_⟩
    refine iteF (g_next ?_)
    dsimp only
    refine g_ret (g_andV (g_cb (cT (xs := (ns.map Int.ofNat).map V.int) (fun _ => [.bl true]) (fun R r => ?_) hx (fun _ => Nat.le_refl 1) hz ?_ (fun i x hi => turn_yes fun H1 R s1 r => ?_) (fun D H1 _ s1 h1 => ?_))))
    · exact ⟨_, rfl, r⟩
    · exact fun _ => rfl
    · rw [List.map_map, List.getElem?_map] at hi
      cases e : ns[i]? with
      | none => rw [e] at hi; cases hi
      | some g =>
        rw [e] at hi
        obtain rfl := Option.some.inj hi
        have hg : g < n := lt g (List.mem_of_getElem? e)
        refine ⟨_, rfl, _, rfl, _, _, rfl, rfl, _, _, _, rfl, ?_⟩
        show R (.bl (decide ((0 : Int) ≤ (g : Int)) && decide ((g : Int) ≤ (n : Int) - 1))) H1
        rw [decide_eq_true (show (0 : Int) ≤ (g : Int) by omega), decide_eq_true (show (g : Int) ≤ (n : Int) - 1 by omega)]
        exact r H1 (Same.refl _)
    · rw [replicate_pre] at h1
      refine ⟨D, List.replicate ((ns.map Int.ofNat).map V.int).length true, rfl, lst_of (by rw [← bls]; exact h1), ?_⟩
      rw [all_true]
      refine ⟨true, rfl, ?_⟩
      refine iteT ?_
      exact ⟨_, rfl, _, ns.map Int.ofNat, rfl, dp_mono s1 _ _ hd, by rw [List.length_map]; exact hl, asc, fun H2 s2 => q H2 (s1.trans s2)⟩
def dRow (r : List (Option Nat)) : PyData := .tuple (r.map dO)
def dTab (t : List (List (Option Nat))) : PyData := .tuple (t.map dRow)
def dNats (ns : List Nat) : PyData := .tuple (ns.map fun (k : Nat) => .int (k : Int))
/-- arrows of so many signs -/
structure GoodT (w : Nat) (tab : List (List (Option Nat))) : Prop where
  w8 : w ≤ 8
  n1 : 1 ≤ tab.length
  n2 : tab.length ≤ 200
  rows : ∀ row ∈ tab, row.length = w ∧ ∀ g, some g ∈ row → g < tab.length
theorem row_in {H : Hp} {tab : List (List (Option Nat))} {xs : List V} {i : Nat} {x : V} (h : DpAll K H xs (tab.map dRow)) (hi : xs[i]? = some x) : ∃ row, tab[i]? = some row ∧ Dp K H x (dRow row) := by
  obtain ⟨d, hd, hx⟩ := dps_getV h hi
  rw [List.getElem?_map] at hd
  cases e : tab[i]? with
  | none => rw [e] at hd; cases hd
  | some row =>
    rw [e] at hd
    obtain rfl := Option.some.inj hd
    exact ⟨row, rfl, hx⟩
def spArrows (K : PySem.W.Frag) : Sp := fun vs H Q _ => ∃ (v : V) (tab : List (List (Option Nat))) (w : Nat), vs = [v, .int (w : Int)] ∧ Dp K H v (dTab tab) ∧ GoodT w tab ∧ ∀ H', Same H H' → Q (.bl true) H'
theorem ok_is_arrows (T : Txt K mg A) (U : Funs K A fd) : FnOk P w K mg base CX0 10 A.is_arrows fd.is_arrows p_is_arrows (spArrows K) := by
  have b_is_goals := U.b_is_goals
  have G_is_goals := ok_is_goals (P := P) (w := w) (base := base) T U
  refine U.F_is_arrows.ok sc_is_arrows (fun vs H Q E h => ?_) (fun cdv A0 outer s H vs Q E hr h => ?_)
  · obtain ⟨v, tab, n, rfl, _⟩ := h
    rfl
  · have hu := hu_of hr
    obtain ⟨v, tab, n, rfl, hd, g, q⟩ := h
    refine ⟨_, (pss_cons (ps_if (PW.pt (pw_or (pt_not (pt_val (pe_callB (w_isi (K := K)) (by rfl) T.b_isinstance (by decide +kernel) (pa_cons (pv 0) (pa_cons (pe_bltn (v := .ty "tuple") (u := .type "tuple") (by rfl) T.b_tuple (by decide +kernel) rfl) pa_nil))))) (pw_or1 (pt_not (pt_chain op_le op_le pe_int (pe_callB (w_len (K := K)) (by rfl) T.b_len (by decide +kernel) (pa_cons (pv 0) pa_nil)) (pe_glob (v := .int 200) (by rfl) T.c_MOST_STANDS.choose_spec ⟨_, rfl⟩)))))) (pss_one (ps_ret pe_bl)) pss_nil)
       (pss_one (ps_ret (pe_callB (w_all (K := K) rfl) (by rfl) T.b_all (by decide +kernel) (pa_cons (pe_lc (own := [("goals", 2)]) (g := gName 2) (tt := tYes) (by rfl) sc_is_arrows.nd (w_piT (K := K) (pv 0)) (blkOk_by (own := [("goals", 2)]) (by rfl)) (fun _ _ _ _ _ => (pg_name (i := 2) sc_is_arrows.nd rfl (Or.inl rfl))) (fun _ _ _ _ _ => pts_nil) (fun _ _ _ _ _ => (pe_call G_is_goals (hr.mono (by decide)) (by rfl) T.m_is_goals T.k_is_goals b_is_goals .nil pass0 (pa_cons (pv 2) (pa_cons (pv 1) (pa_cons (pe_callB (w_len (K := K)) (by rfl) T.b_len (by decide +kernel) (pa_cons (pv 0) pa_nil)) pa_nil)))))) pa_nil))))), ?_⟩
    obtain ⟨a, xs, rfl, hx, hds⟩ := dp_tup hd
    have hl : xs.length = tab.length := by rw [dps_len hds, List.length_map]
    have n1 := g.n1
    have n2 := g.n2
    refine ⟨_, rfl, _, _, _, .type "tuple", true, rfl, .ty _, tupTy hx, kit_ty (by decide +kernel), true, rfl, ?_⟩
    refine iteF ?_
    refine ⟨_, rfl, _, _, rfl, .inr ⟨_, hx, rfl⟩, _, _, rfl, rfl, _, rfl, ?_⟩
    rw [decide_eq_true (show (1 : Int) ≤ (xs.length : Int) by omega)]
    refine iteT ?_
    refine ⟨_, _, rfl, rfl, _, rfl, ?_⟩
    rw [decide_eq_true (show (xs.length : Int) ≤ 200 by omega)]
    refine iteF (g_next ?_)
    dsimp only
    refine g_ret (g_cb (cT (xs := xs) (fun _ => [.bl true]) (fun R r => ?_) hx (fun _ => Nat.le_refl 1) (by omega) ?_ (fun i x hi => turn_yes fun H1 R s1 r => ?_) (fun D H1 _ s1 h1 => ?_)))
    · exact ⟨_, rfl, r⟩
    · exact fun _ => rfl
    · obtain ⟨row, hr1, hr2⟩ := row_in hds hi
      obtain ⟨hw, hg⟩ := g.rows row (List.mem_of_getElem? hr1)
      refine ⟨_, rfl, _, rfl, _, rfl, _, _, rfl, .inr ⟨_, sqT_mono s1 hx, rfl⟩, ?_⟩
      refine ⟨x, row, tab.length, by rw [hw, hl] <;> rfl, dp_mono s1 _ _ hr2, by rw [hw]; exact g.w8, hg, r⟩
    · rw [replicate_pre] at h1
      refine ⟨D, List.replicate xs.length true, rfl, lst_of (by rw [← bls]; exact h1), ?_⟩
      rw [all_true]
      exact q H1 s1
def spSigns : Sp := fun vs H Q _ => ∃ i : Int, vs = [.int i] ∧ 1 ≤ i ∧ i ≤ 8 ∧ Q .non H
theorem ok_check_signs (T : Txt K mg A) (U : Funs K A fd) : FnOk P w K mg base CX0 7 A.check_signs fd.check_signs p_check_signs (spSigns) := by
  have b_is_between := U.b_is_between
  have G_is_between := ok_is_between (P := P) (w := w) (base := base) T U
  refine U.F_check_signs.ok sc_check_signs (fun vs H Q E h => ?_) (fun cdv A0 outer s H vs Q E hr h => ?_)
  · obtain ⟨i, rfl, _⟩ := h
    rfl
  · have hu := hu_of hr
    obtain ⟨i, rfl, h1, h2, q⟩ := h
    refine ⟨_, (pss_one (ps_if (pt_not (pt_val (pe_call G_is_between (hr.mono (by decide)) (by rfl) T.m_is_between T.k_is_between b_is_between .nil pass0 (pa_cons (pv 0) (pa_cons pe_int (pa_cons (pe_glob (v := .int 8) (by rfl) T.c_MOST_SIGNS.choose_spec ⟨_, rfl⟩) pa_nil)))))) (pss_one ps_never) pss_nil)), ?_⟩
    refine ⟨_, rfl, _, _, _, rfl, ?_⟩
    rw [decide_eq_true h1, decide_eq_true h2]
    exact ⟨_, rfl, iteF q⟩
end K6


set_option Elab.async false
set_option linter.all false
set_option maxRecDepth 100000
set_option maxHeartbeats 4000000
namespace K6
open PySem PySem.Spec PyProof.Rows L2 Rw
variable {P : Program} {w : World} {K : PySem.W.Frag} {mg : Str → Option Value} {base : Heap} {A : Ad} {fd : Fds}
/-! ### readers -/
theorem ks1 : ¬ (("_signs" : Str) = "_arrows") := by decide +kernel
theorem ks2 : ¬ (("_signs" : Str) = "_ends") := by decide +kernel
theorem ks3 : ¬ (("_arrows" : Str) = "_ends") := by decide +kernel
def flds (w : Nat) (a e : Addr) : List (Str × V) := putF "_ends" (.ref e) (putF "_arrows" (.ref a) (putF "_signs" (.int (w : Int)) []))
theorem flds_signs (w : Nat) (a e : Addr) : (flds w a e).lookup ("_signs" : Str) = some (.int (w : Int)) := by
  unfold flds
  rw [lookup_putF, if_neg ks2, lookup_putF, if_neg ks1, lookup_putF, if_pos rfl]
theorem flds_arrows (w : Nat) (a e : Addr) : (flds w a e).lookup ("_arrows" : Str) = some (.ref a) := by
  unfold flds
  rw [lookup_putF, if_neg ks3, lookup_putF, if_pos rfl]
theorem flds_ends (w : Nat) (a e : Addr) : (flds w a e).lookup ("_ends" : Str) = some (.ref e) := by
  unfold flds
  rw [lookup_putF, if_pos rfl]
structure RdAt (K : PySem.W.Frag) (C : Addr) (H : Hp) (p : Addr) (w : Nat) (tab : List (List (Option Nat))) (ends : List Nat) : Prop where
  ob : ∃ dx a e, H p = some (.ins C dx (flds w a e)) ∧ Dp K H (.ref a) (dTab tab) ∧ Dp K H (.ref e) (dNats ends)
theorem RdAt.mono {H H' : Hp} {C p : Addr} {w : Nat} {tab : List (List (Option Nat))} {ends : List Nat} (h : RdAt K C H p w tab ends) (s : Same H H') : RdAt K C H' p w tab ends := by
  obtain ⟨dx, a, e, h1, h2, h3⟩ := h.ob
  exact ⟨dx, a, e, s _ _ h1, dp_mono s _ _ h2, dp_mono s _ _ h3⟩
/-- ends of so many stands -/
structure GoodE (n : Nat) (ends : List Nat) : Prop where
  asc : Asc (ends.map Int.ofNat)
  lt : ∀ g ∈ ends, g < n
  len : ends.length ≤ 1000
def spInit (K : PySem.W.Frag) (C : Addr) : Sp := fun vs H Q _ => ∃ (p dx : Addr) (a e : Addr) (w : Nat) (tab : List (List (Option Nat))) (ends : List Nat), vs = [.ref p, .int (w : Int), .ref a, .ref e] ∧ H p = some (.ins C dx []) ∧
  Dp K H (.ref a) (dTab tab) ∧ Dp K H (.ref e) (dNats ends) ∧ 1 ≤ w ∧ GoodT w tab ∧ GoodE tab.length ends ∧
  ∀ H', (∀ b o, H b = some o → b ≠ p → H' b = some o) → H' p = some (.ins C dx (flds w a e)) → Q .non H'
theorem ok_Reader_init (T : Txt K mg A) (U : Funs K A fd) : FnOk P w K mg base CX0 13 A.Reader_init fd.Reader_init p_Reader_init (spInit K A.C) := by
  have b_is_stands := U.b_is_stands
  have G_is_stands := ok_is_stands (P := P) (w := w) (base := base) T U
  have b_is_arrows := U.b_is_arrows
  have G_is_arrows := ok_is_arrows (P := P) (w := w) (base := base) T U
  have b_check_signs := U.b_check_signs
  have G_check_signs := ok_check_signs (P := P) (w := w) (base := base) T U
  refine U.F_Reader_init.ok sc_Reader_init (fun vs H Q E h => ?_) (fun cdv A0 outer s H vs Q E hr h => ?_)
  · obtain ⟨p, dx, a, e, n, tab, ends, rfl, _⟩ := h
    rfl
  · have hu := hu_of hr
    obtain ⟨p, dx, a, e, n, tab, ends, rfl, hp, ha, he, n1, gt, ge, q⟩ := h
    refine ⟨_, (pss_cons (ps_expr (pe_call G_check_signs (hr.mono (by decide)) (by rfl) T.m_check_signs T.k_check_signs b_check_signs .nil pass0 (pa_cons (pv 1) pa_nil)))
       (pss_cons (ps_if (pt_not (pt_val (pe_call G_is_arrows (hr.mono (by decide)) (by rfl) T.m_is_arrows T.k_is_arrows b_is_arrows .nil pass0 (pa_cons (pv 2) (pa_cons (pv 1) pa_nil))))) (pss_one ps_never) pss_nil)
       (pss_cons (ps_if (pt_not (pt_val (pe_call G_is_stands (hr.mono (by decide)) (by rfl) T.m_is_stands T.k_is_stands b_is_stands .nil pass0 (pa_cons (pv 3) (pa_cons (pe_callB (w_len (K := K)) (by rfl) T.b_len (by decide +kernel) (pa_cons (pv 2) pa_nil)) pa_nil))))) (pss_one ps_never) pss_nil)
       (pss_cons (ps_fld (pv 0) (pv 1) rfl)
       (pss_cons (ps_fld (pv 0) (pv 2) rfl)
       (pss_one (ps_fld (pv 0) (pv 3) rfl))))))), ?_⟩
    refine ⟨_, rfl, _, rfl, by omega, by have := gt.w8; omega, ?_⟩
    refine ⟨_, rfl, _, rfl, _, tab, n, rfl, ha, gt, fun H1 s1 => ?_⟩
    refine ⟨_, rfl, iteF (g_next ?_)⟩
    obtain ⟨xa, xs, e1, hx, hds⟩ := dp_tup (dp_mono s1 _ _ ha)
    obtain rfl := V.ref.inj e1
    have hl : xs.length = tab.length := by rw [dps_len hds, List.length_map]
    refine ⟨_, rfl, _, rfl, _, _, rfl, .inr ⟨_, hx, rfl⟩, _, ends, tab.length, by rw [hl] <;> rfl, dp_mono s1 _ _ he, ge.len, ge.asc, ge.lt, fun H2 s2 => ?_⟩
    refine ⟨_, rfl, iteF (g_next ?_)⟩
    have hp2 := s2 _ _ (s1 _ _ hp)
    refine ⟨_, rfl, _, rfl, p, A.C, dx, _, rfl, hp2, T.cl, T.na_signs, (by show 0 < 1000; decide), ?_⟩
    refine ⟨_, rfl, _, rfl, p, A.C, dx, _, rfl, upd_same, T.cl, T.na_arrows, (by show 1 < 1000; decide), ?_⟩
    refine ⟨_, rfl, _, rfl, p, A.C, dx, _, rfl, upd_same, T.cl, T.na_ends, (by
      show (putF "_arrows" _ (putF "_signs" _ [])).length < 1000
      have : ∀ (x y : V), (putF "_arrows" x (putF "_signs" y [])).length = 2 := fun x y => by
        show (if ("_signs" : Str) = "_arrows" then _ else (("_signs" : Str), y) :: putF "_arrows" x []).length = 2
        rw [if_neg ks1]
        rfl
      rw [this]
      decide), ?_⟩
    refine q _ (fun b o hb hne => ?_) upd_same
    rw [upd_ne hne, upd_ne hne, upd_ne hne]
    exact s2 _ _ (s1 _ _ hb)
def spGet (C : Addr) (f : Str) : Sp := fun vs H Q _ => ∃ a dx fs v, vs = [.ref a] ∧ H a = some (.ins C dx fs) ∧ fs.lookup f = some v ∧ Q v H
theorem ok_Reader_signs (T : Txt K mg A) (U : Funs K A fd) : FnOk P w K mg base CX0 1 A.Reader_signs fd.Reader_signs p_Reader_signs (spGet A.C "_signs") := by
  refine U.F_Reader_signs.ok sc_Reader_signs (fun vs H Q E h => ?_) (fun cdv A0 outer s H vs Q E hr h => ?_)
  · obtain ⟨a, dx, fs, v, rfl, _⟩ := h
    rfl
  · have hu := hu_of hr
    obtain ⟨a, dx, fs, v, rfl, ea, l, q⟩ := h
    refine ⟨_, (pss_one (ps_ret (pe_fld (pv 0) rfl))), ?_⟩
    exact ⟨_, rfl, a, A.C, dx, fs, v, rfl, ea, T.cl, T.na_signs, l, q⟩
theorem ok_Reader_arrows (T : Txt K mg A) (U : Funs K A fd) : FnOk P w K mg base CX0 1 A.Reader_arrows fd.Reader_arrows p_Reader_arrows (spGet A.C "_arrows") := by
  refine U.F_Reader_arrows.ok sc_Reader_arrows (fun vs H Q E h => ?_) (fun cdv A0 outer s H vs Q E hr h => ?_)
  · obtain ⟨a, dx, fs, v, rfl, _⟩ := h
    rfl
  · have hu := hu_of hr
    obtain ⟨a, dx, fs, v, rfl, ea, l, q⟩ := h
    refine ⟨_, (pss_one (ps_ret (pe_fld (pv 0) rfl))), ?_⟩
    exact ⟨_, rfl, a, A.C, dx, fs, v, rfl, ea, T.cl, T.na_arrows, l, q⟩
theorem ok_Reader_ends (T : Txt K mg A) (U : Funs K A fd) : FnOk P w K mg base CX0 1 A.Reader_ends fd.Reader_ends p_Reader_ends (spGet A.C "_ends") := by
  refine U.F_Reader_ends.ok sc_Reader_ends (fun vs H Q E h => ?_) (fun cdv A0 outer s H vs Q E hr h => ?_)
  · obtain ⟨a, dx, fs, v, rfl, _⟩ := h
    rfl
  · have hu := hu_of hr
    obtain ⟨a, dx, fs, v, rfl, ea, l, q⟩ := h
    refine ⟨_, (pss_one (ps_ret (pe_fld (pv 0) rfl))), ?_⟩
    exact ⟨_, rfl, a, A.C, dx, fs, v, rfl, ea, T.cl, T.na_ends, l, q⟩
def spRd (K : PySem.W.Frag) (C : Addr) (f : Nat → List (List (Option Nat)) → List Nat → V) : Sp := fun vs H Q _ => ∃ p w tab ends, vs = [.ref p] ∧ RdAt K C H p w tab ends ∧ Q (f w tab ends) H
theorem ok_Reader_len (T : Txt K mg A) (U : Funs K A fd) : FnOk P w K mg base CX0 1 A.Reader_len fd.Reader_len p_Reader_len (spRd K A.C (fun _ tab _ => .int (tab.length : Int))) := by
  refine U.F_Reader_len.ok sc_Reader_len (fun vs H Q E h => ?_) (fun cdv A0 outer s H vs Q E hr h => ?_)
  · obtain ⟨p, n, tab, ends, rfl, _⟩ := h
    rfl
  · have hu := hu_of hr
    obtain ⟨p, n, tab, ends, rfl, R, q⟩ := h
    refine ⟨_, (pss_one (ps_ret (pe_callB (w_len (K := K)) (by rfl) T.b_len (by decide +kernel) (pa_cons (pe_fld (pv 0) rfl) pa_nil)))), ?_⟩
    obtain ⟨dx, a, e, h1, h2, h3⟩ := R.ob
    obtain ⟨xa, xs, e1, hx, hds⟩ := dp_tup h2
    obtain rfl := V.ref.inj e1
    have hl : xs.length = tab.length := by rw [dps_len hds, List.length_map]
    refine ⟨_, rfl, p, A.C, dx, _, _, rfl, h1, T.cl, T.na_arrows, flds_arrows _ _ _, _, tab.length, rfl, .inr ⟨_, hx, hl.symm⟩, q⟩
theorem insTy (T : Txt K mg A) {H : Hp} {p dx : Addr} {fs : List (Str × V)} (h : H p = some (.ins A.C dx fs)) : TyX K H (.ref p) (.ref A.C) := .base (.ins h T.cl T.t_ha T.t_hn T.t_tk T.t_mo)
theorem kit_self (a : Addr) : PySem.W.kitOne K (.ref a) (.ref a) = some true := by
  unfold PySem.W.kitOne
  simp
theorem ok_check_reader (T : Txt K mg A) (U : Funs K A fd) : FnOk P w K mg base CX0 1 A.check_reader fd.check_reader p_check_reader (spRd K A.C (fun _ _ _ => .non)) := by
  refine U.F_check_reader.ok sc_check_reader (fun vs H Q E h => ?_) (fun cdv A0 outer s H vs Q E hr h => ?_)
  · obtain ⟨p, n, tab, ends, rfl, _⟩ := h
    rfl
  · have hu := hu_of hr
    obtain ⟨p, n, tab, ends, rfl, R, q⟩ := h
    refine ⟨_, (pss_one (ps_if (pt_not (pt_val (pe_callB (w_isi (K := K)) (by rfl) T.b_isinstance (by decide +kernel) (pa_cons (pv 0) (pa_cons (pe_glob (v := .ref A.C) (by rfl) T.m_Reader rfl) pa_nil))))) (pss_one ps_never) pss_nil)), ?_⟩
    obtain ⟨dx, a, e, h1, h2, h3⟩ := R.ob
    exact ⟨_, rfl, .ref p, .ref A.C, .ref A.C, .ref A.C, true, rfl, .own _, insTy T h1, kit_self _, true, rfl, iteF (g_next q)⟩
end K6


set_option linter.all false
set_option maxRecDepth 100000
namespace K6
open PySem
def rowS (l : List Nat) : Str := ⟨(l.map (97 + ·)).toArray⟩
def sgn (g : Nat) : Str := ⟨#[97 + g]⟩
theorem rowS_snoc (l : List Nat) (g : Nat) : rowS l ++ sgn g = rowS (l ++ [g]) := by
  show (⟨(l.map (97 + ·)).toArray ++ #[97 + g]⟩ : Str) = ⟨((l ++ [g]).map (97 + ·)).toArray⟩
  rw [List.map_append]
  simp
theorem rowS_app (l m : List Nat) : rowS l ++ rowS m = rowS (l ++ m) := by
  show (⟨(l.map (97 + ·)).toArray ++ (m.map (97 + ·)).toArray⟩ : Str) = ⟨((l ++ m).map (97 + ·)).toArray⟩
  rw [List.map_append]
  simp
theorem rowS_len (l : List Nat) : (rowS l).length = l.length := by
  show ((l.map (97 + ·)).toArray).size = _
  simp
theorem rowS_inj {l m : List Nat} (h : rowS l = rowS m) : l = m := by
  unfold rowS at h
  injection h with h
  have h2 := congrArg Array.toList h
  simp only [List.toList_toArray] at h2
  exact (List.map_inj_right (fun x y e => by omega)).mp h2
/-- the number of a row on a track -/
def num (t : Nat) : List Nat → Nat
  | [] => 0
  | k :: r => k / 2 ^ t % 2 + 2 * num t r
def nums (w : Nat) (l : List Nat) : List Nat := (List.range w).map fun t => num t l
def strip : List Nat → List Nat
  | [] => []
  | k :: r => if k = 0 ∧ strip r = [] then [] else k :: strip r
/-- the sign with these lowest figures -/
def sg (ns : List Nat) : Nat := ((List.range ns.length).map fun i => ns.getD i 0 % 2 * 2 ^ i).sum
def srt : Nat → List Nat → List Nat
  | 0, _ => []
  | f + 1, ns => if ∀ n ∈ ns, n = 0 then [] else sg ns :: srt f (ns.map (· / 2))
theorem num_zero (t : Nat) : ∀ m, num t (List.replicate m 0) = 0
  | 0 => rfl
  | m + 1 => by
    rw [List.replicate_succ]
    unfold num
    rw [num_zero t m]
    simp
theorem num_app (t m : Nat) : ∀ l : List Nat, num t (l ++ List.replicate m 0) = num t l
  | [] => by rw [List.nil_append, num_zero]; rfl
  | k :: r => by
    rw [List.cons_append]
    unfold num
    rw [num_app t m r]
theorem nums_app (w m : Nat) (l : List Nat) : nums w (l ++ List.replicate m 0) = nums w l := by
  unfold nums
  exact List.map_congr_left fun t _ => num_app t m l
theorem num_strip (t : Nat) : ∀ l : List Nat, num t (strip l) = num t l
  | [] => rfl
  | k :: r => by
    have ih := num_strip t r
    unfold strip
    by_cases c : k = 0 ∧ strip r = []
    · rw [if_pos c]
      obtain ⟨rfl, c2⟩ := c
      rw [c2] at ih
      have z : num t r = 0 := ih.symm
      show num t [] = 0 / 2 ^ t % 2 + 2 * num t r
      rw [z]
      simp [num]
    · rw [if_neg c]
      show k / 2 ^ t % 2 + 2 * num t (strip r) = k / 2 ^ t % 2 + 2 * num t r
      rw [ih]
theorem nums_strip (w : Nat) (l : List Nat) : nums w (strip l) = nums w l := by
  unfold nums
  exact List.map_congr_left fun t _ => num_strip t l
theorem num_lt (t : Nat) : ∀ l : List Nat, num t l < 2 ^ l.length
  | [] => by show 0 < 2 ^ 0; decide
  | k :: r => by
    have ih := num_lt t r
    have e : 2 ^ (k :: r).length = 2 * 2 ^ r.length := by rw [List.length_cons, Nat.pow_succ, Nat.mul_comm]
    rw [e]
    unfold num
    have : k / 2 ^ t % 2 < 2 := Nat.mod_lt _ (by decide)
    omega
theorem strip_len : ∀ l : List Nat, (strip l).length ≤ l.length
  | [] => Nat.le_refl _
  | k :: r => by
    have ih := strip_len r
    unfold strip
    split
    · exact Nat.zero_le _
    · rw [List.length_cons, List.length_cons]
      omega
theorem strip_mem : ∀ {l : List Nat} {x : Nat}, x ∈ strip l → x ∈ l
  | [], _, h => h
  | k :: r, x, h => by
    unfold strip at h
    split at h
    · simp at h
    · rcases List.mem_cons.mp h with h | h
      · exact List.mem_cons.mpr (.inl h)
      · exact List.mem_cons.mpr (.inr (strip_mem h))
/-- up to three numbers -/
theorem three {ns : List Nat} (h : ns.length ≤ 3) : ns = [] ∨ (∃ a, ns = [a]) ∨ (∃ a b, ns = [a, b]) ∨ ∃ a b c, ns = [a, b, c] := by
  match ns, h with
  | [], _ => exact .inl rfl
  | [a], _ => exact .inr (.inl ⟨a, rfl⟩)
  | [a, b], _ => exact .inr (.inr (.inl ⟨a, b, rfl⟩))
  | [a, b, c], _ => exact .inr (.inr (.inr ⟨a, b, c, rfl⟩))
  | _ :: _ :: _ :: _ :: _, h => simp at h
theorem sg1 (a : Nat) : sg [a] = a % 2 := by simp [sg, List.range_succ]
theorem sg2 (a b : Nat) : sg [a, b] = a % 2 + b % 2 * 2 := by simp [sg, List.range_succ]
theorem sg3 (a b c : Nat) : sg [a, b, c] = a % 2 + b % 2 * 2 + c % 2 * 4 := by simp [sg, List.range_succ]; omega
theorem sg_lt {ns : List Nat} (h : ns.length ≤ 3) : sg ns < 2 ^ ns.length := by
  rcases three h with rfl | ⟨a, rfl⟩ | ⟨a, b, rfl⟩ | ⟨a, b, c, rfl⟩
  · decide
  · rw [sg1]; show a % 2 < 2 ^ 1; omega
  · rw [sg2]; show a % 2 + b % 2 * 2 < 2 ^ 2; omega
  · rw [sg3]; show a % 2 + b % 2 * 2 + c % 2 * 4 < 2 ^ 3; omega
theorem sg_bit {ns : List Nat} (h : ns.length ≤ 3) {t : Nat} (ht : t < ns.length) : sg ns / 2 ^ t % 2 = ns[t] % 2 := by
  rcases three h with rfl | ⟨a, rfl⟩ | ⟨a, b, rfl⟩ | ⟨a, b, c, rfl⟩
  · simp at ht
  · rw [sg1]
    match t, ht with
    | 0, _ => show a % 2 / 1 % 2 = a % 2; omega
  · rw [sg2]
    match t, ht with
    | 0, _ => show (a % 2 + b % 2 * 2) / 1 % 2 = a % 2; omega
    | 1, _ => show (a % 2 + b % 2 * 2) / 2 % 2 = b % 2; omega
  · rw [sg3]
    match t, ht with
    | 0, _ => show (a % 2 + b % 2 * 2 + c % 2 * 4) / 1 % 2 = a % 2; omega
    | 1, _ => show (a % 2 + b % 2 * 2 + c % 2 * 4) / 2 % 2 = b % 2; omega
    | 2, _ => show (a % 2 + b % 2 * 2 + c % 2 * 4) / 4 % 2 = c % 2; omega
theorem num_srt : ∀ (f : Nat) (ns : List Nat), ns.length ≤ 3 → (∀ n ∈ ns, n < 2 ^ f) → ∀ t (ht : t < ns.length), num t (srt f ns) = ns[t]
  | 0, ns, _, h, t, ht => by
    have := h ns[t] (List.getElem_mem ht)
    show 0 = ns[t]
    simp at this
    exact this.symm
  | f + 1, ns, h3, h, t, ht => by
    unfold srt
    by_cases c : ∀ n ∈ ns, n = 0
    · rw [if_pos c]
      exact (c ns[t] (List.getElem_mem ht)).symm
    · rw [if_neg c]
      have ih := num_srt f (ns.map (· / 2)) (by rw [List.length_map]; exact h3) (fun n hn => by
        obtain ⟨m, hm, rfl⟩ := List.mem_map.mp hn
        have := h m hm
        rw [Nat.pow_succ] at this
        omega) t (by rw [List.length_map]; exact ht)
      show sg ns / 2 ^ t % 2 + 2 * num t (srt f (ns.map (· / 2))) = ns[t]
      rw [ih, sg_bit h3 ht, List.getElem_map]
      omega
theorem nums_srt {f : Nat} {ns : List Nat} (h3 : ns.length ≤ 3) (h : ∀ n ∈ ns, n < 2 ^ f) : nums ns.length (srt f ns) = ns := by
  unfold nums
  apply List.ext_getElem
  · simp
  · intro i h1 h2
    simp only [List.getElem_map, List.getElem_range]
    exact num_srt f ns h3 h i h2
theorem srt_len : ∀ (f : Nat) (ns : List Nat), (srt f ns).length ≤ f
  | 0, _ => Nat.le_refl _
  | f + 1, ns => by
    unfold srt
    split
    · exact Nat.zero_le _
    · rw [List.length_cons]
      have := srt_len f (ns.map (· / 2))
      omega
theorem srt_lt : ∀ (f : Nat) (ns : List Nat), ns.length ≤ 3 → ∀ k ∈ srt f ns, k < 2 ^ ns.length
  | 0, _, _, k, h => by simp [srt] at h
  | f + 1, ns, h3, k, h => by
    unfold srt at h
    split at h
    · simp at h
    · rcases List.mem_cons.mp h with rfl | h
      · exact sg_lt h3
      · have := srt_lt f (ns.map (· / 2)) (by rw [List.length_map]; exact h3) k h
        rw [List.length_map] at this
        exact this
theorem srt_nil {f : Nat} {ns : List Nat} (h : ∀ n ∈ ns, n < 2 ^ f) (e : srt f ns = []) : ∀ n ∈ ns, n = 0 := by
  cases f with
  | zero =>
    intro n hn
    have := h n hn
    simp at this
    exact this
  | succ f =>
    unfold srt at e
    split at e
    · assumption
    · cases e
theorem srt_zero {f : Nat} {ns : List Nat} (h : ∀ n ∈ ns, n = 0) : srt f ns = [] := by
  cases f with
  | zero => rfl
  | succ f => unfold srt; rw [if_pos h]
theorem half_lt {f : Nat} {ns : List Nat} (h : ∀ n ∈ ns, n < 2 ^ (f + 1)) : ∀ n ∈ ns.map (· / 2), n < 2 ^ f := by
  intro n hn
  obtain ⟨m, hm, rfl⟩ := List.mem_map.mp hn
  have := h m hm
  rw [Nat.pow_succ] at this
  omega
theorem sg_zero {ns : List Nat} (h3 : ns.length ≤ 3) (h : ∀ n ∈ ns, n < 2) (e : sg ns = 0) : ∀ n ∈ ns, n = 0 := by
  intro n hn
  obtain ⟨t, ht, rfl⟩ := List.getElem_of_mem hn
  have := sg_bit h3 ht
  rw [e] at this
  have b := h ns[t] (List.getElem_mem ht)
  simp at this
  omega
/-- a shortest row does not end with 0 -/
theorem srt_last : ∀ (f : Nat) (ns : List Nat), ns.length ≤ 3 → (∀ n ∈ ns, n < 2 ^ f) → (srt f ns).getLast? ≠ some 0
  | 0, _, _, _ => by simp [srt]
  | f + 1, ns, h3, h => by
    unfold srt
    by_cases c : ∀ n ∈ ns, n = 0
    · rw [if_pos c]
      simp
    · rw [if_neg c]
      have hh := half_lt h
      have ih := srt_last f (ns.map (· / 2)) (by rw [List.length_map]; exact h3) hh
      by_cases e : srt f (ns.map (· / 2)) = []
      · rw [e]
        have z := srt_nil hh e
        intro w
        have w : some (sg ns) = some 0 := w
        refine c (sg_zero h3 (fun n hn => ?_) (Option.some.inj w))
        have := z (n / 2) (List.mem_map.mpr ⟨n, hn, rfl⟩)
        omega
      · obtain ⟨x, r, er⟩ := List.exists_cons_of_ne_nil e
        rw [er] at ih ⊢
        rw [List.getLast?_cons_cons]
        exact ih
theorem nums_zero {w : Nat} {l : List Nat} (e : strip l = []) : ∀ n ∈ nums w l, n = 0 := by
  intro n hn
  obtain ⟨t, _, rfl⟩ := List.mem_map.mp hn
  rw [← num_strip t l, e]
  rfl
theorem bits_zero {w k : Nat} (hw : w ≤ 3) (hk : k < 2 ^ w) (h : ∀ t, t < w → k / 2 ^ t % 2 = 0) : k = 0 := by
  match w, hw with
  | 0, _ => simp at hk; exact hk
  | 1, _ => have := h 0 (by decide); simp at this hk; omega
  | 2, _ => have a := h 0 (by decide); have b := h 1 (by decide); simp at a b hk; omega
  | 3, _ => have a := h 0 (by decide); have b := h 1 (by decide); have c := h 2 (by decide); simp at a b c hk; omega
theorem sg_nums {w k : Nat} (hw : w ≤ 3) (hk : k < 2 ^ w) (r : List Nat) : sg (nums w (k :: r)) = k := by
  match w, hw with
  | 0, _ => simp at hk; subst hk; rfl
  | 1, _ =>
    show sg [num 0 (k :: r)] = k
    rw [sg1]
    simp [num] at hk ⊢
    omega
  | 2, _ =>
    show sg [num 0 (k :: r), num 1 (k :: r)] = k
    rw [sg2]
    simp [num] at hk ⊢
    omega
  | 3, _ =>
    show sg [num 0 (k :: r), num 1 (k :: r), num 2 (k :: r)] = k
    rw [sg3]
    simp [num] at hk ⊢
    omega
theorem half_nums (w k : Nat) (r : List Nat) : (nums w (k :: r)).map (· / 2) = nums w r := by
  unfold nums
  rw [List.map_map]
  refine List.map_congr_left fun t _ => ?_
  show (k / 2 ^ t % 2 + 2 * num t r) / 2 = num t r
  have : k / 2 ^ t % 2 < 2 := Nat.mod_lt _ (by decide)
  omega
theorem srt_nums {w : Nat} (hw : w ≤ 3) : ∀ (f : Nat) (l : List Nat), (∀ k ∈ l, k < 2 ^ w) → l.length ≤ f → srt f (nums w l) = strip l
  | f, [], _, _ => srt_zero (nums_zero rfl)
  | 0, k :: r, _, h => by simp at h
  | f + 1, k :: r, hl, h => by
    have hk := hl k (List.mem_cons_self ..)
    have hr : ∀ x ∈ r, x < 2 ^ w := fun x hx => hl x (List.mem_cons_of_mem _ hx)
    have hf : r.length ≤ f := by rw [List.length_cons] at h; omega
    have ih := srt_nums hw f r hr hf
    unfold srt
    by_cases c : k = 0 ∧ strip r = []
    · have e : strip (k :: r) = [] := by unfold strip; rw [if_pos c]
      rw [if_pos (nums_zero e), e]
    · have e : strip (k :: r) = k :: strip r := by
        show (if k = 0 ∧ strip r = [] then [] else k :: strip r) = _
        rw [if_neg c]
      have nz : ¬ ∀ n ∈ nums w (k :: r), n = 0 := by
        intro z
        apply c
        have zt : ∀ t, t < w → k / 2 ^ t % 2 = 0 ∧ num t r = 0 := by
          intro t ht
          have := z (num t (k :: r)) (List.mem_map.mpr ⟨t, List.mem_range.mpr ht, rfl⟩)
          unfold num at this
          omega
        refine ⟨bits_zero hw hk fun t ht => (zt t ht).1, ?_⟩
        rw [← ih]
        refine srt_zero fun n hn => ?_
        obtain ⟨t, ht, rfl⟩ := List.mem_map.mp hn
        exact (zt t (List.mem_range.mp ht)).2
      rw [if_neg nz, e, sg_nums hw hk, half_nums, ih]
/-! ### the shortest row, sign by sign -/
def mx (ns : List Nat) : Nat := ns.foldr max 0
theorem mx_le : ∀ {ns : List Nat} {n : Nat}, n ∈ ns → n ≤ mx ns
  | m :: r, n, h => by
    show n ≤ max m (mx r)
    rcases List.mem_cons.mp h with rfl | h
    · exact Nat.le_max_left _ _
    · exact Nat.le_trans (mx_le h) (Nat.le_max_right _ _)
theorem mx_half : ∀ ns : List Nat, mx (ns.map (· / 2)) = mx ns / 2
  | [] => rfl
  | n :: r => by
    show max (n / 2) (mx (r.map (· / 2))) = max n (mx r) / 2
    rw [mx_half r]
    omega
theorem mx_zero {ns : List Nat} : (∀ n ∈ ns, n = 0) ↔ mx ns = 0 := by
  constructor
  · intro h
    induction ns with
    | nil => rfl
    | cons n r ih =>
      show max n (mx r) = 0
      rw [h n (List.mem_cons_self ..), ih fun m hm => h m (List.mem_cons_of_mem _ hm)]
      rfl
  · intro h n hn
    have := mx_le hn
    omega
theorem mx_mem : ∀ {ns : List Nat}, ns ≠ [] → mx ns ∈ ns
  | [], h => absurd rfl h
  | [n], _ => by show max n 0 ∈ _; simp
  | n :: m :: r, _ => by
    have ih := mx_mem (ns := m :: r) (by simp)
    show max n (mx (m :: r)) ∈ _
    by_cases c : n ≤ mx (m :: r)
    · rw [Nat.max_eq_right c]
      exact List.mem_cons_of_mem _ ih
    · rw [Nat.max_eq_left (by omega)]
      exact List.mem_cons_self ..
def bits (n : Nat) : Nat := if n = 0 then 0 else n.log2 + 1
theorem bits_half {n : Nat} (h : n ≠ 0) : bits n = bits (n / 2) + 1 := by
  unfold bits
  rw [if_neg h]
  by_cases c : n / 2 = 0
  · have : n = 1 := by omega
    subst this
    rw [if_pos c]
    decide
  · rw [if_neg c, Nat.log2_def n, if_pos (by omega)]
theorem shift (ns : List Nat) (p : Nat) : (ns.map (· / 2)).map (· / 2 ^ p) = ns.map (· / 2 ^ (p + 1)) := by
  rw [List.map_map]
  refine List.map_congr_left fun n _ => ?_
  show n / 2 / 2 ^ p = n / 2 ^ (p + 1)
  rw [Nat.div_div_eq_div_mul, Nat.pow_succ, Nat.mul_comm]
theorem srt_range : ∀ (f : Nat) (ns : List Nat), (∀ n ∈ ns, n < 2 ^ f) → srt f ns = (List.range (bits (mx ns))).map fun p => sg (ns.map (· / 2 ^ p))
  | 0, ns, h => by
    have z : mx ns = 0 := mx_zero.mp fun n hn => by have := h n hn; simp at this; exact this
    rw [z]
    rfl
  | f + 1, ns, h => by
    unfold srt
    by_cases c : ∀ n ∈ ns, n = 0
    · rw [if_pos c, mx_zero.mp c]
      rfl
    · rw [if_neg c, srt_range f _ (half_lt h), mx_half, bits_half (fun e => c (mx_zero.mpr e)), List.range_succ_eq_map, List.map_cons, List.map_map]
      congr 1
      · congr 1
        simp
      · refine List.map_congr_left fun p _ => ?_
        show sg ((ns.map (· / 2)).map (· / 2 ^ p)) = sg (ns.map (· / 2 ^ (p + 1)))
        rw [shift]
/-! ### texts -/
theorem filterMap_all {α β : Type} {f : α → Option β} {g : α → β} : ∀ {l : List α}, (∀ x ∈ l, f x = some (g x)) → l.filterMap f = l.map g
  | [], _ => rfl
  | x :: r, h => by
    rw [List.filterMap_cons, h x (List.mem_cons_self ..), List.map_cons, filterMap_all fun y hy => h y (List.mem_cons_of_mem _ hy)]
theorem rev_row (l : List Nat) {u : Tok} : Txt.sliceBy (rowS l) none none (-1, u) = rowS l.reverse := by
  unfold Txt.sliceBy slicePicked Builtin.Str.strSliceIndices
  rw [if_neg (by simp)]
  simp only [Option.map_none, Option.map_some, Option.getD_some]
  rw [show (if (-1 : Int) > 0 then (0 : Int) else ((rowS l).length : Int) - 1) = ((rowS l).length : Int) - 1 from if_neg (by decide), show (if (-1 : Int) > 0 then ((rowS l).length : Int) else -1) = -1 from if_neg (by decide), rowS_len]
  unfold sliceRange
  have ec : (if (-1 : Int) > 0 then (if ((l.length : Int) - 1) < -1 then (-1 - ((l.length : Int) - 1) + -1 - 1) / -1 else 0) else (if ((l.length : Int) - 1) > -1 then ((l.length : Int) - 1 - -1 - -1 - 1) / (- -1) else 0)) = (l.length : Int) := by
    rw [if_neg (by decide)]
    split
    · have : (- -1 : Int) = 1 := by decide
      rw [this, Int.ediv_one]
      omega
    · omega
  simp only [ec, Int.toNat_natCast]
  have e2 : (List.map (fun (k : Nat) => ((l.length : Int) - 1 + -1 * (k : Int)).toNat) (List.range l.length)).filterMap ((rowS l).cps[·]?) = l.reverse.map (97 + ·) := by
    rw [List.filterMap_map]
    rw [filterMap_all (g := fun k => (l.reverse.map (97 + ·)).getD k 0) fun k hk => ?_]
    · apply List.ext_getElem
      · simp
      · intro i h1 h2
        simp at h1 h2
        simp [List.getD_eq_getElem?_getD, h2]
    · have hk := List.mem_range.mp hk
      show ((l.map (97 + ·)).toArray)[(((l.length : Int) - 1) + -1 * (k : Int)).toNat]? = _
      rw [show (((l.length : Int) - 1) + -1 * (k : Int)).toNat = l.length - 1 - k by omega]
      rw [List.getElem?_toArray, List.getElem?_map, List.getD_eq_getElem?_getD, List.getElem?_map, List.getElem?_reverse hk, List.getElem?_eq_getElem (show l.length - 1 - k < l.length by omega)]
      rfl
  show (⟨(List.filterMap ((rowS l).cps[·]?) _).toArray⟩ : Str) = ⟨(l.reverse.map (97 + ·)).toArray⟩
  rw [e2]
theorem mul_a (n : Nat) : Txt.mul ("a" : Str) (n : Int) = rowS (List.replicate n 0) := by
  unfold Txt.mul
  by_cases h : (n : Int) < 1
  · rw [if_pos h, show n = 0 by omega]
    rfl
  · rw [if_neg h]
    have fl : ∀ (m : Nat) (acc : Array Nat), (List.replicate m (("a" : Str).cps)).foldl (· ++ ·) acc = acc ++ (List.replicate m 97).toArray := by
      intro m
      induction m with
      | zero => intro acc; simp
      | succ m ih =>
        intro acc
        rw [List.replicate_succ, List.foldl_cons, ih]
        have : ("a" : Str).cps = #[97] := rfl
        rw [this]
        apply Array.ext'
        simp [List.replicate_succ]
    by_cases c : ((n : Int) == 1 || ("a" : Str).length == 0) = true
    · rw [if_pos c]
      have : n = 1 := by
        have c : ((n : Int) == 1 || false) = true := c
        rw [Bool.or_false] at c
        have := eq_of_beq c
        omega
      subst this
      rfl
    · rw [if_neg c, Int.toNat_natCast, fl]
      unfold rowS
      simp
theorem glue_rows : ∀ (ls : List (List Nat)) (acc : List Nat), (ls.map rowS).foldl (fun a p => a ++ (("" : Str)).cps ++ p.cps) (acc.map (97 + ·)).toArray = ((acc ++ ls.flatten).map (97 + ·)).toArray
  | [], acc => by simp
  | l :: ls, acc => by
    rw [List.map_cons, List.foldl_cons]
    have e : ((acc.map (97 + ·)).toArray ++ (("" : Str)).cps ++ (rowS l).cps) = ((acc ++ l).map (97 + ·)).toArray := by
      have : (("" : Str)).cps = #[] := rfl
      rw [this]
      unfold rowS
      simp
    rw [e, glue_rows ls (acc ++ l), List.flatten_cons, List.append_assoc]
theorem join_rows (ls : List (List Nat)) : Txt.join ("" : Str) (ls.map rowS) = rowS ls.flatten := by
  unfold Txt.join Builtin.Str.glued
  cases ls with
  | nil => rfl
  | cons l r =>
    rw [List.map_cons, List.drop_one, List.tail_cons, List.headD_cons]
    show (⟨(r.map rowS).foldl (fun acc p => acc ++ (("" : Str)).cps ++ p.cps) (l.map (97 + ·)).toArray⟩ : Str) = _
    rw [glue_rows r l]
    rfl
theorem join_signs (l : List Nat) : Txt.join ("" : Str) (l.map sgn) = rowS l := by
  have := join_rows (l.map fun g => [g])
  rw [List.map_map] at this
  have e : (l.map fun g => [g]).flatten = l := by induction l with
    | nil => rfl
    | cons a r ih => rw [List.map_cons, List.flatten_cons, ih (by rw [← List.map_map]; exact join_rows _)]; rfl
  rw [e] at this
  exact this
/-- behind the last sign that is no a -/
theorem strip_rev (l : List Nat) : strip l = (l.reverse.dropWhile (· == 0)).reverse := by
  induction l with
  | nil => rfl
  | cons k r ih =>
    unfold strip
    rw [List.reverse_cons, List.dropWhile_append]
    by_cases c : strip r = []
    · have e : (r.reverse.dropWhile (· == 0)) = [] := by
        rw [c] at ih
        exact List.reverse_eq_nil_iff.mp ih.symm
      rw [e]
      by_cases k0 : k = 0
      · rw [if_pos ⟨k0, c⟩]
        simp [k0]
      · rw [if_neg fun z => k0 z.1]
        simp [k0, c]
    · have e : (r.reverse.dropWhile (· == 0)) ≠ [] := fun z => c (by rw [ih, z]; rfl)
      rw [if_neg fun z => c z.2, ih]
      have e2 : (List.dropWhile (fun x => x == 0) r.reverse).isEmpty = false := by
        cases h : (List.dropWhile (fun x => x == 0) r.reverse) with
        | nil => exact absurd h e
        | cons _ _ => rfl
      rw [e2]
      simp
theorem rstrip_row (l : List Nat) : Txt.rstripChars (rowS l) ("a" : Str) = rowS (strip l) := by
  unfold Txt.rstripChars Txt.stripBy
  have hlo : stripLo (("a" : Str).cps.contains) false (rowS l) = 0 := rfl
  have tw : ∀ m : List Nat, ((m.map (97 + ·)).takeWhile (("a" : Str).cps.contains)).length = (m.takeWhile (· == 0)).length := by
    intro m
    induction m with
    | nil => rfl
    | cons k r ih =>
      rw [List.map_cons, List.takeWhile_cons, List.takeWhile_cons]
      have : (("a" : Str).cps.contains (97 + k)) = (k == 0) := by
        show (#[97] : Array Nat).contains (97 + k) = _
        by_cases e : k = 0
        · subst e; simp
        · rw [beq_eq_false_iff_ne.mpr e]
          simp [e]
      rw [this]
      split
      · rw [List.length_cons, List.length_cons, ih]
      · rfl
  have hhi : stripHi (("a" : Str).cps.contains) true (rowS l) 0 = l.length - (l.reverse.takeWhile (· == 0)).length := by
    unfold stripHi
    rw [if_pos rfl, rowS_len, List.drop_zero]
    unfold rowS
    rw [List.toList_toArray, ← List.map_reverse, tw]
  have el : l.length - (l.reverse.takeWhile (· == 0)).length = (strip l).length := by
    rw [strip_rev, List.length_reverse]
    have := congrArg List.length (List.takeWhile_append_dropWhile (p := (· == 0)) (l := l.reverse))
    rw [List.length_append, List.length_reverse] at this
    omega
  have pf : strip l = l.take (strip l).length := by
    have h1 : (strip l).reverse = l.reverse.dropWhile (· == 0) := by rw [strip_rev, List.reverse_reverse]
    have h2 : l = strip l ++ (l.reverse.takeWhile (· == 0)).reverse := by
      have := List.takeWhile_append_dropWhile (p := (· == 0)) (l := l.reverse)
      have := congrArg List.reverse this
      rw [List.reverse_append, List.reverse_reverse] at this
      rw [strip_rev]
      exact this.symm
    have h3 : l.take (strip l).length = (strip l ++ (l.reverse.takeWhile (· == 0)).reverse).take (strip l).length := by rw [← h2]
    rw [h3, List.take_left]
  by_cases c : stripSame (("a" : Str).cps.contains) false true (rowS l) = true
  · rw [if_pos c]
    unfold stripSame at c
    rw [hlo, hhi, el, rowS_len] at c
    have c2 : (strip l).length = l.length := by
      have := (Bool.and_eq_true_iff.mp c).2
      exact eq_of_beq this
    rw [c2, List.take_length] at pf
    rw [pf]
  · rw [if_neg c]
    unfold stripped
    rw [hlo, hhi, el]
    unfold Builtin.Str.strSub rowS
    rw [pf]
    congr 1
    apply Array.ext'
    simp
theorem strip_last : ∀ l : List Nat, (strip l).getLast? ≠ some 0 := by
  intro l
  rw [strip_rev, List.getLast?_reverse]
  intro h
  have := List.head?_dropWhile_not (p := (· == 0)) (l := l.reverse)
  rw [h] at this
  simp at this
end K6

set_option Elab.async false
set_option linter.all false
set_option maxRecDepth 100000
set_option maxHeartbeats 4000000
namespace K6
open PySem PySem.Spec PyProof.Rows L2 Rw
variable {P : Program} {w : World} {K : PySem.W.Frag} {mg : Str → Option Value} {base : Heap} {A : Ad} {fd : Fds}
theorem cut_at : ∀ n : Nat, n ≤ 8 → cutS ("abcdefgh" : Str) none (some (n : Int)) = rowS (List.range n)
  | 0, _ => by decide +kernel
  | 1, _ => by decide +kernel
  | 2, _ => by decide +kernel
  | 3, _ => by decide +kernel
  | 4, _ => by decide +kernel
  | 5, _ => by decide +kernel
  | 6, _ => by decide +kernel
  | 7, _ => by decide +kernel
  | 8, _ => by decide +kernel
  | n + 9, h => by omega
theorem rowS_at {l : List Nat} {i c : Nat} (h : (rowS l).cps[i]? = some c) : ∃ g, l[i]? = some g ∧ c = 97 + g := by
  unfold rowS at h
  simp only [List.getElem?_toArray, List.getElem?_map] at h
  cases e : l[i]? with
  | none => rw [e] at h; cases h
  | some g =>
    rw [e] at h
    exact ⟨g, rfl, (Option.some.inj h).symm⟩
theorem rowS_size (l : List Nat) : (rowS l).cps.size = l.length := rowS_len l
theorem in_row {g : Nat} {l : List Nat} (h : g ∈ l) : decide (97 + g ∈ (rowS l).cps.toList) = true := by
  refine decide_eq_true ?_
  unfold rowS
  rw [List.toList_toArray]
  exact List.mem_map.mpr ⟨g, h, rfl⟩
def spIsRow : Sp := fun vs H Q _ => ∃ (l : List Nat) (n m : Nat), vs = [.str (rowS l), .int (n : Int), .int (m : Int)] ∧ n ≤ 8 ∧ l.length ≤ m ∧ m ≤ 1000 ∧ (∀ g ∈ l, g < n) ∧ ∀ H', Same H H' → Q (.bl true) H'
theorem ok_is_row (T : Txt K mg A) (U : Funs K A fd) : FnOk P w K mg base CX0 1 A.is_row fd.is_row p_is_row (spIsRow) := by
  refine U.F_is_row.ok sc_is_row (fun vs H Q E h => ?_) (fun cdv A0 outer s H vs Q E hr h => ?_)
  · obtain ⟨l, n, m, rfl, _⟩ := h
    rfl
  · have hu := hu_of hr
    obtain ⟨l, n, m, rfl, hn, hl, hm, hg, q⟩ := h
    refine ⟨_, (pss_cons (ps_if (PW.pt (pw_or (pt_not (pt_val (pe_callB (w_isi (K := K)) (by rfl) T.b_isinstance (by decide +kernel) (pa_cons (pv 0) (pa_cons (pe_bltn (v := .ty "str") (u := .type "str") (by rfl) T.b_str (by decide +kernel) rfl) pa_nil))))) (pw_or1 (pt_cmpR op_gt (pe_callB (w_len (K := K)) (by rfl) T.b_len (by decide +kernel) (pa_cons (pv 0) pa_nil)) (pv 2) (nomark _))))) (pss_one (ps_ret pe_bl)) pss_nil)
       (pss_cons (ps_set (i := 3) sc_is_row.nd rfl (Or.inr rfl) (pe_slice sl_str (pe_glob (v := .str "abcdefgh") (by rfl) T.c_ALPHABET.choose_spec ⟨_, rfl⟩) po_none (po_some (pv 1))))
       (pss_one (ps_ret (pe_callB (w_all (K := K) rfl) (by rfl) T.b_all (by decide +kernel) (pa_cons (pe_lc (own := [("sign", 4)]) (g := gName 4) (tt := tYes) (by rfl) sc_is_row.nd (pi_str (pv 0)) (blkOk_by (own := [("sign", 4)]) (by rfl)) (fun _ _ _ _ _ => (pg_name (i := 4) sc_is_row.nd rfl (Or.inl rfl))) (fun _ _ _ _ _ => pts_nil) (fun _ _ _ _ _ => (pe_cmpR op_in_sign (pv 4) (pv 3) (by rfl)))) pa_nil)))))), ?_⟩
    refine ⟨_, rfl, .str (rowS l), .ty "str", .type "str", .type "str", true, rfl, .ty _, .base (.str _), kit_ty (by decide +kernel), true, rfl, ?_⟩
    refine iteF ?_
    refine ⟨_, rfl, _, _, rfl, ⟨szl (by rw [rowS_len]; omega), rfl⟩, _, rfl, _, _, rfl, rfl, _, rfl, ?_⟩
    rw [decide_eq_false (show ¬ (((rowS l).length : Int) > (m : Int)) by rw [rowS_len]; omega)]
    refine iteF (g_next ?_)
    refine ⟨_, rfl, (n : Int), rfl, _, rfl, szl (by decide +kernel), ?_⟩
    rw [cut_at n hn]
    dsimp only
    refine g_ret (g_cb (cS (z := rowS l) (fun _ => [.bl true]) (fun R r => ?_) (fun _ => Nat.le_refl 1) (by rw [rowS_size]; omega) ?_ (fun i c hi => turn_yes fun H1 R s1 r => ?_) (fun D H1 _ s1 h1 => ?_)))
    · exact ⟨_, rfl, r⟩
    · exact fun _ => rfl
    · obtain ⟨g, hg1, rfl⟩ := rowS_at hi
      refine ⟨_, rfl, _, rfl, _, _, rfl, rfl, ?_⟩
      rw [in_row (List.mem_range.mpr (hg g (List.mem_of_getElem? hg1)))]
      exact r H1 (Same.refl _)
    · rw [replicate_pre] at h1
      refine ⟨D, List.replicate (rowS l).cps.size true, rfl, lst_of (by rw [← bls]; exact h1), ?_⟩
      rw [all_true]
      exact q H1 s1
def spCkRow : Sp := fun vs H Q _ => ∃ (l : List Nat) (n : Nat), vs = [.int (n : Int), .str (rowS l)] ∧ n ≤ 8 ∧ l.length ≤ 200 ∧ (∀ g ∈ l, g < n) ∧ ∀ H', Same H H' → Q .non H'
theorem ok_check_row (T : Txt K mg A) (U : Funs K A fd) : FnOk P w K mg base CX0 4 A.check_row fd.check_row p_check_row (spCkRow) := by
  have b_is_row := U.b_is_row
  have G_is_row := ok_is_row (P := P) (w := w) (base := base) T U
  refine U.F_check_row.ok sc_check_row (fun vs H Q E h => ?_) (fun cdv A0 outer s H vs Q E hr h => ?_)
  · obtain ⟨l, n, rfl, _⟩ := h
    rfl
  · have hu := hu_of hr
    obtain ⟨l, n, rfl, hn, hl, hg, q⟩ := h
    refine ⟨_, (pss_one (ps_if (pt_not (pt_val (pe_call G_is_row (hr.mono (by decide)) (by rfl) T.m_is_row T.k_is_row b_is_row .nil pass0 (pa_cons (pv 1) (pa_cons (pv 0) (pa_cons (pe_glob (v := .int 200) (by rfl) T.c_MOST_ROW.choose_spec ⟨_, rfl⟩) pa_nil)))))) (pss_one ps_never) pss_nil)), ?_⟩
    refine ⟨_, rfl, _, rfl, l, n, 200, rfl, hn, hl, by decide, hg, fun H1 s1 => ?_⟩
    exact ⟨_, rfl, iteF (g_next (q H1 s1))⟩
abbrev Tab := List (List (Option Nat))
def flags (n : Nat) (l : List Nat) : List V := (List.range n).map fun k => .bl (decide (k ∈ l))
theorem flags_set {n e : Nat} {l : List Nat} (h : e < n) : (flags n l).set e (.bl true) = flags n (l ++ [e]) := by
  unfold flags
  apply List.ext_getElem
  · simp
  · intro i h1 h2
    simp only [List.length_set, List.length_map, List.length_range] at h1
    rw [List.getElem_set]
    by_cases c : e = i
    · subst c
      rw [if_pos rfl]
      simp
    · rw [if_neg c]
      simp
      intro h
      omega
theorem flags_nil (n : Nat) : (List.replicate n [V.bl false]).flatten = flags n [] := by
  unfold flags
  induction n with
  | zero => rfl
  | succ n ih =>
    rw [List.replicate_succ', List.flatten_append, ih, List.range_succ, List.map_append]
    simp
def spFlagsOf (K : PySem.W.Frag) : Sp := fun vs H Q _ => ∃ (n : Nat) (v : V) (ends : List Nat), vs = [.int (n : Int), v] ∧ Dp K H v (dNats ends) ∧ (∀ g ∈ ends, g < n) ∧ n ≤ 200 ∧
  ∀ q H', H q = none → Same H H' → H' q = some (.lst (flags n ends)) → Q (.ref q) H'
theorem ok_flags_of (T : Txt K mg A) (U : Funs K A fd) : FnOk P w K mg base CX0 1 A.flags_of fd.flags_of p_flags_of (spFlagsOf K) := by
  refine U.F_flags_of.ok sc_flags_of (fun vs H Q E h => ?_) (fun cdv A0 outer s H vs Q E hr h => ?_)
  · obtain ⟨n, v, ends, rfl, _⟩ := h
    rfl
  · have hu := hu_of hr
    obtain ⟨n, v, ends, rfl, hd, lt, hn, k⟩ := h
    refine ⟨_, (pss_cons (ps_set (i := 2) sc_flags_of.nd rfl (Or.inl rfl) (pe_op op_rep (pe_lst (pa_cons pe_bl pa_nil)) (pv 0)))
       (pss_cons (ps_for PassesOwn.never rfl (w_piT (K := K) (pv 1)) (pg_name (i := 3) sc_flags_of.nd rfl (Or.inl rfl))
       (pss_one (ps_asg pe_bl (pg_sub (pv 2) (pv 3) set_list))))
       (pss_one (ps_ret (pv 2))))), ?_⟩
    refine ⟨by show 1 ≤ sizeLine; decide, fun p0 hp0 => ?_⟩
    have s0 : Same H (upd H p0 (.lst [.bl false])) := same_upd hp0
    refine ⟨_, rfl, p0, _, _, rfl, rfl, upd_same, by omega, by omega, szl (by simp; omega), fun q hq => ?_⟩
    rw [Int.toNat_natCast, flags_nil]
    have s1 : Same H (upd (upd H p0 (.lst [.bl false])) q (.lst (flags n []))) := s0.trans (same_upd hq)
    have nq : H q = none := Same.free s0 hq
    have h3 := dp_mono s1 _ _ hd
    unfold dNats at h3
    rw [nats_int] at h3
    obtain ⟨ae, xs, e1, hx, hds⟩ := dp_tup h3
    obtain rfl := dps_ints hds
    subst e1
    refine ⟨_, rfl, ae, rfl, ⟨_, hx⟩, ?_⟩
    refine for_tup (xs := (ends.map Int.ofNat).map V.int) (fun i σ H' => ∃ y, σ = [some (.int (n : Int)), some (.ref ae), some (.ref q), y] ∧ (∀ b o, b ≠ q → (upd (upd H p0 (.lst [.bl false])) q (.lst (flags n []))) b = some o → H' b = some o) ∧ Same H H' ∧ H' q = some (.lst (flags n (ends.take i)))) ?_ ?_ ?_ ?_
    · exact ⟨none, rfl, fun b o _ h => h, s1, upd_same⟩
    · rintro i σ H' _ ⟨y, rfl, s2, _, _⟩
      rcases hx with (hx | ⟨o, hx⟩) | hx
      · refine .inl (.inl (s2 _ _ (fun z => ?_) hx))
        rw [z, upd_same] at hx
        cases hx
      · refine .inl (.inr ⟨o, s2 _ _ (fun z => ?_) hx⟩)
        rw [z, upd_same] at hx
        cases hx
      · exact .inr hx
    · rintro i x σ H' hi ⟨y, rfl, s2, s3, hq2⟩
      rw [List.map_map, List.getElem?_map] at hi
      cases ee : ends[i]? with
      | none => rw [ee] at hi; cases hi
      | some g =>
        rw [ee] at hi
        obtain rfl := Option.some.inj hi
        have hg : g < n := lt g (List.mem_of_getElem? ee)
        refine ⟨_, rfl, _, rfl, q, _, _, g, rfl, rfl, hq2, Evl.ixN_nat (by simp [flags]; exact hg), ?_⟩
        refine ⟨_, rfl, fun b o hb h => ?_, same_put s3 nq, ?_⟩
        · rw [upd_ne hb]
          exact s2 b o hb h
        · rw [upd_same, flags_set hg, List.take_add_one, ee]
          rfl
    · rintro σ H' ⟨y, rfl, s2, s3, hq2⟩
      rw [List.length_map, List.length_map, List.take_length] at hq2
      exact ⟨_, rfl, k q H' nq s3 hq2⟩
def spFlags (K : PySem.W.Frag) (C : Addr) : Sp := fun vs H Q _ => ∃ p w tab ends, vs = [.ref p] ∧ RdAt K C H p w tab ends ∧ GoodE tab.length ends ∧ tab.length ≤ 200 ∧
  ∀ q H', H q = none → Same H H' → H' q = some (.lst (flags tab.length ends)) → Q (.ref q) H'
theorem ok_end_flags (T : Txt K mg A) (U : Funs K A fd) : FnOk P w K mg base CX0 4 A.end_flags fd.end_flags p_end_flags (spFlags K A.C) := by
  have b_flags_of := U.b_flags_of
  have G_flags_of := ok_flags_of (P := P) (w := w) (base := base) T U
  have b_Reader_ends := U.b_Reader_ends
  have G_Reader_ends := ok_Reader_ends (P := P) (w := w) (base := base) T U
  have b_Reader_len := U.b_Reader_len
  have G_Reader_len := ok_Reader_len (P := P) (w := w) (base := base) T U
  refine U.F_end_flags.ok sc_end_flags (fun vs H Q E h => ?_) (fun cdv A0 outer s H vs Q E hr h => ?_)
  · obtain ⟨p, n, tab, ends, rfl, _⟩ := h
    rfl
  · have hu := hu_of hr
    obtain ⟨p, n, tab, ends, rfl, R, ge, hn, k⟩ := h
    refine ⟨_, (pss_one (ps_ret (pe_call G_flags_of (hr.mono (by decide)) (by rfl) T.m_flags_of T.k_flags_of b_flags_of .nil pass0 (pa_cons (pe_callB (call_lenO G_Reader_len (hr.mono (by decide)) T.own_len T.isf_len b_Reader_len pass0) (by rfl) T.b_len PySem.boot_len (pa_cons (pv 0) pa_nil)) (pa_cons (pe_prop (pv 0) T.cl T.p_Reader_ends G_Reader_ends (hr.mono (by decide)) b_Reader_ends .nil pass0 rfl) pa_nil))))), ?_⟩
    obtain ⟨dx, a, e, h1, h2, h3⟩ := R.ob
    refine ⟨_, rfl, p, dx, _, rfl, h1, p, n, tab, ends, rfl, R, tab.length, rfl, by omega, ?_⟩
    exact ⟨_, rfl, p, dx, _, rfl, h1, p, dx, _, _, rfl, h1, flds_ends _ _ _, tab.length, .ref e, ends, rfl, h3, ge.lt, hn, k⟩
theorem index_at : ∀ g : Nat, g < 8 → ∃ rest, Builtin.Str.occurrences ("abcdefgh" : Str) ⟨#[97 + g]⟩ 0 ("abcdefgh" : Str).length 1 = g :: rest
  | 0, _ => ⟨[], by decide +kernel⟩
  | 1, _ => ⟨[], by decide +kernel⟩
  | 2, _ => ⟨[], by decide +kernel⟩
  | 3, _ => ⟨[], by decide +kernel⟩
  | 4, _ => ⟨[], by decide +kernel⟩
  | 5, _ => ⟨[], by decide +kernel⟩
  | 6, _ => ⟨[], by decide +kernel⟩
  | 7, _ => ⟨[], by decide +kernel⟩
  | n + 8, h => by omega
end K6


set_option Elab.async false
set_option linter.all false
set_option maxRecDepth 100000
set_option maxHeartbeats 4000000
namespace K6
open PySem PySem.Spec PyProof.Rows L2 Rw
variable {P : Program} {w : World} {K : PySem.W.Frag} {mg : Str → Option Value} {base : Heap} {A : Ad} {fd : Fds}
/-! ### a comprehension over zip -/
theorem sqB_mono {H H' : Hp} (s : Same H H') {t : Bool} {a : Addr} {xs : List V} (h : SqB K t H a xs) : SqB K t H' a xs := by
  cases t with
  | true => exact sqL_mono s h
  | false => exact sqT_mono s h
theorem lZ {H : Hp} {σ : L2.St} {tt : TT} {te : TE} {vs : List Nat} {i8 i9 : Nat} {Qd : Addr → Hp → Prop} {t1 t2 : Bool} {a b : Addr} {xs ys : List V} (st : Nat → List V) (hx : SqB K t1 H a xs) (hy : SqB K t2 H b ys) (hl : ys.length = xs.length) (hst : ∀ i, (st i).length ≤ 1) (hn : xs.length < 100000)
    (hw : ∀ x y, wipe (((wipe σ vs).set i8 (some x)).set i9 (some y)) vs = wipe σ vs) (turn : ∀ (i : Nat) (x y : V), xs[i]? = some x → ys[i]? = some y → Turn1 tt te (((wipe σ vs).set i8 (some x)).set i9 (some y)) H (st i))
    (fin : ∀ D H1, H D = none → Same H H1 → H1 D = some (.lst (pre st xs.length)) → Qd D H1) :
    ∀ D, H D = none → ∃ W : Nat → Nat → Hp → Prop, (∃ m, W 0 m (upd H D (.lst []))) ∧ ∀ i m H, W i m H →
      ((ItzM K t1 t2 a b).stop i H ∧ Qd D H) ∨ ((ItzM K t1 t2 a b).go i H ∧ ∃ Nx : Hp → Prop, (∀ H', Nx H' → ∃ m', m' < m ∧ W (i + 1) m' H') ∧ ∀ x H', (ItzM K t1 t2 a b).yld i H x H' → gTup K 2 (gCons (gName i8) (gCons (gName i9) gNil)) x (wipe σ vs) H' fun σ2 H2 => wipe σ2 vs = wipe σ vs ∧ tt σ2 H2 fun b H3 =>
        if b = true then te σ2 H3 fun y H4 => ∃ acc, H4 D = some (.lst acc) ∧ acc.length < sizeLine ∧ Nx (upd H4 D (.lst (acc ++ [y]))) else Nx H3) := by
  intro D hD
  refine ⟨fun i m H1 => m = xs.length - i ∧ i ≤ xs.length ∧ Same H H1 ∧ H1 D = some (.lst (pre st i)), ⟨xs.length, rfl, Nat.zero_le _, same_upd hD, upd_same⟩, ?_⟩
  rintro i m H1 ⟨rfl, hi, s1, h1⟩
  by_cases c : i < xs.length
  · have ex : xs[i]? = some xs[i] := List.getElem?_eq_getElem c
    have c2 : i < ys.length := by omega
    have ey : ys[i]? = some ys[i] := List.getElem?_eq_getElem c2
    refine .inr ⟨⟨xs, ys, xs[i], ys[i], sqB_mono s1 hx, sqB_mono s1 hy, ex, ey⟩, fun H2 => Same H H2 ∧ H2 D = some (.lst (pre st (i + 1))), fun H2 h2 => ⟨xs.length - (i + 1), by omega, rfl, c, h2.1, h2.2⟩, fun x H' hyy => ?_⟩
    obtain ⟨T, x', y', rfl, hT, rfl, hx', hy'⟩ := hyy
    have ex' := hx' xs (sqB_mono s1 hx)
    have ey' := hy' ys (sqB_mono s1 hy)
    have sT := same_upd (o := .tup [x', y']) hT
    refine ⟨T, _, rfl, tup_of upd_same, rfl, _, _, rfl, _, _, rfl, rfl, ?_⟩
    refine ⟨hw _ _, ?_⟩
    refine turn i x' y' ex' ey' _ _ _ (s1.trans sT) (fun y H2 hs s2 => ?_) (fun H2 hs s2 => ?_)
    · refine ⟨pre st i, s2 D _ (sT _ _ h1), szt (by have := pre_len hst i; omega), ?_, ?_⟩
      · exact same_put (s1.trans (sT.trans s2)) hD
      · rw [pre_succ, hs]
        exact upd_same
    · refine ⟨s1.trans (sT.trans s2), ?_⟩
      rw [pre_succ, hs, List.append_nil]
      exact s2 D _ (sT _ _ h1)
  · have e : i = xs.length := by omega
    subst e
    exact .inl ⟨⟨xs, ys, sqB_mono s1 hx, sqB_mono s1 hy, rfl, hl⟩, fin D H1 hD s1 h1⟩
/-! ### what is written, as data -/
abbrev Wd := List Nat
def dW : Option Wd → PyData
  | none => .none
  | some l => .str (rowS l)
def vW : Option Wd → V
  | none => .non
  | some l => .str (rowS l)
theorem dps_W {H : Hp} : ∀ {vs : List V} {r : List (Option Wd)}, DpAll K H vs (r.map dW) → vs = r.map vW
  | _, [], h => by cases h; rfl
  | _, none :: r, h => by
    cases h with
    | cons a b =>
      cases a
      rw [dps_W b]
      rfl
  | _, some n :: r, h => by
    cases h with
    | cons a b =>
      cases a
      rw [dps_W b]
      rfl
theorem W_dps {H : Hp} : ∀ (r : List (Option Wd)), DpAll K H (r.map vW) (r.map dW)
  | [] => .nil
  | none :: r => .cons .non (W_dps r)
  | some n :: r => .cons (.str _) (W_dps r)
abbrev Tw := List (List (Option Wd))
def dOuts (r : List (Option Wd)) : PyData := .tuple (r.map dW)
def dWords (t : Tw) : PyData := .tuple (t.map dOuts)
structure GoodW (l : Wd) : Prop where
  len : l.length ≤ 4
  lt : ∀ g ∈ l, g < 2
structure Fit (fl : List Bool) (r : List (Option Wd)) : Prop where
  shape : r.map Option.isSome = fl
  good : ∀ l, some l ∈ r → GoodW l
theorem Fit.len {fl : List Bool} {r : List (Option Wd)} (f : Fit fl r) : r.length = fl.length := by rw [← f.shape, List.length_map]
def spOutput (K : PySem.W.Frag) : Sp := fun vs H Q _ => ∃ (v : V) (p : Addr) (r : List (Option Wd)) (fl : List Bool) (n : Nat), vs = [v, .ref p, .int (n : Int)] ∧ Dp K H v (dOuts r) ∧ SqL K H p (fl.map V.bl) ∧ Fit fl r ∧ r.length ≤ 200 ∧ 2 ≤ n ∧ n ≤ 8 ∧
  ∀ H', Same H H' → Q (.bl true) H'
theorem ok_is_output (T : Txt K mg A) (U : Funs K A fd) : FnOk P w K mg base CX0 4 A.is_output fd.is_output p_is_output (spOutput K) := by
  have b_is_row := U.b_is_row
  have G_is_row := ok_is_row (P := P) (w := w) (base := base) T U
  refine U.F_is_output.ok sc_is_output (fun vs H Q E h => ?_) (fun cdv A0 outer s H vs Q E hr h => ?_)
  · obtain ⟨v, p, r, fl, n, rfl, _⟩ := h
    rfl
  · have hu := hu_of hr
    obtain ⟨v, p, r, fl, n, rfl, hd, hp, ft, hlr, n2, n8, k⟩ := h
    refine ⟨_, (pss_cons (ps_if (PW.pt (pw_or (pt_not (pt_val (pe_callB (w_isi (K := K)) (by rfl) T.b_isinstance (by decide +kernel) (pa_cons (pv 0) (pa_cons (pe_bltn (v := .ty "tuple") (u := .type "tuple") (by rfl) T.b_tuple (by decide +kernel) rfl) pa_nil))))) (pw_or1 (pt_cmpR op_ne (pe_callB (w_len (K := K)) (by rfl) T.b_len (by decide +kernel) (pa_cons (pv 0) pa_nil)) (pe_callB (w_len (K := K)) (by rfl) T.b_len (by decide +kernel) (pa_cons (pv 1) pa_nil)) (nomark _))))) (pss_one (ps_ret pe_bl)) pss_nil)
       (pss_one (ps_ret (pe_callB (w_all (K := K) rfl) (by rfl) T.b_all (by decide +kernel) (pa_cons (pe_lc (own := [("word", 3), ("flag", 4)]) (tt := tYes) (by rfl) sc_is_output.nd (pi_zipM (K := K) rfl (by rfl) T.b_zip (pa_cons (pv 0) (pa_cons (pv 1) pa_nil))) (blkOk_by (own := [("word", 3), ("flag", 4)]) (by rfl)) (fun _ _ _ _ _ => (w_tup (K := K) (n := 2) rfl (pgs_cons (pg_name (i := 3) sc_is_output.nd rfl (Or.inl rfl)) (pgs_cons (pg_name (i := 4) sc_is_output.nd rfl (Or.inl rfl)) pgs_nil)))) (fun _ _ _ _ _ => pts_nil) (fun _ _ _ _ _ => (pe_ifExp (pt_val (pv 4)) (pe_call G_is_row (hr.mono (by decide)) (by rfl) T.m_is_row T.k_is_row b_is_row .nil pass0 (pa_cons (pv 3) (pa_cons (pv 2) (pa_cons (pe_glob (v := .int 4) (by rfl) T.c_MOST_WORD.choose_spec ⟨_, rfl⟩) pa_nil)))) (pe_cmpR op_isN (pv 3) pe_non (nomark _))))) pa_nil))))), ?_⟩
    obtain ⟨a, xs, rfl, hx, hds⟩ := dp_tup hd
    obtain rfl := dps_W hds
    have hl := ft.len
    refine ⟨_, rfl, _, _, _, .type "tuple", true, rfl, .ty _, tupTy hx, kit_ty (by decide +kernel), true, rfl, ?_⟩
    refine iteF ?_
    refine ⟨_, rfl, _, _, rfl, .inr ⟨_, hx, rfl⟩, _, rfl, _, _, rfl, .inl ⟨_, hp, rfl⟩, rfl, _, rfl, ?_⟩
    rw [List.length_map, List.length_map, hl, decide_eq_true rfl]
    refine iteF (g_next ?_)
    dsimp only
    refine g_ret (g_cb ?_)
    refine ⟨_, rfl, _, rfl, false, true, a, p, r.map vW, fl.map V.bl, rfl, hx, hp, ?_⟩
    refine lZ (xs := r.map vW) (ys := fl.map V.bl) (fun _ => [.bl true]) hx hp (by rw [List.length_map, List.length_map, hl]) (fun _ => Nat.le_refl 1) (by rw [List.length_map]; omega) (fun _ _ => rfl) (fun i x y hi hj => turn_yes fun H1 R s1 q => ?_) (fun D H1 hD s1 h1 => ?_)
    · rw [List.getElem?_map] at hi hj
      cases e1 : r[i]? with
      | none => rw [e1] at hi; cases hi
      | some o =>
        rw [e1] at hi
        obtain rfl := Option.some.inj hi
        have ef : fl[i]? = some o.isSome := by
          rw [← ft.shape, List.getElem?_map, e1]
          rfl
        rw [ef] at hj
        obtain rfl := Option.some.inj hj
        cases o with
        | none =>
          refine ⟨_, rfl, false, rfl, iteF ?_⟩
          exact ⟨_, rfl, rfl, q H1 (Same.refl _)⟩
        | some l =>
          have gw := ft.good l (List.mem_of_getElem? e1)
          refine ⟨_, rfl, true, rfl, iteT ?_⟩
          exact ⟨_, rfl, _, rfl, l, n, 4, rfl, n8, gw.len, by decide, fun g hg => by have := gw.lt g hg; omega, fun H2 s2 => q H2 s2⟩
    · rw [replicate_pre] at h1
      refine ⟨D, List.replicate (r.map vW).length true, rfl, lst_of (by rw [← bls]; exact h1), ?_⟩
      rw [all_true]
      exact k H1 s1
end K6


set_option Elab.async false
set_option linter.all false
set_option maxRecDepth 100000
set_option maxHeartbeats 4000000
namespace K6
open PySem PySem.Spec PyProof.Rows L2 Rw
variable {P : Program} {w : World} {K : PySem.W.Frag} {mg : Str → Option Value} {base : Heap} {A : Ad} {fd : Fds}
structure Scr where
  tab : Tab
  ends : List Nat
  first : Wd
  words : Tw
  lasts : List (Option Wd)
def eflags (S : Scr) : List Bool := (List.range S.tab.length).map fun k => decide (k ∈ S.ends)
structure GoodS (w : Nat) (S : Scr) : Prop where
  w1 : 1 ≤ w
  gt : GoodT w S.tab
  ge : GoodE S.tab.length S.ends
  fst : GoodW S.first
  wds : S.words.map (·.map Option.isSome) = S.tab.map (·.map Option.isSome)
  wgood : ∀ r ∈ S.words, ∀ l, some l ∈ r → GoodW l
  lst : Fit (eflags S) S.lasts
theorem GoodS.wlen {n : Nat} {S : Scr} (g : GoodS n S) : S.words.length = S.tab.length := by
  have := congrArg List.length g.wds
  simpa using this
theorem GoodS.llen {n : Nat} {S : Scr} (g : GoodS n S) : S.lasts.length = S.tab.length := by
  rw [g.lst.len]
  unfold eflags
  rw [List.length_map, List.length_range]
theorem GoodS.row {n : Nat} {S : Scr} (g : GoodS n S) {i : Nat} {r : List (Option Wd)} {row : List (Option Nat)} (h1 : S.words[i]? = some r) (h2 : S.tab[i]? = some row) : r.map Option.isSome = row.map Option.isSome := by
  have := congrArg (fun l => l[i]?) g.wds
  simp only [List.getElem?_map, h1, h2] at this
  exact Option.some.inj this
theorem tw_in {H : Hp} {t : Tw} {xs : List V} {i : Nat} {x : V} (h : DpAll K H xs (t.map dOuts)) (hi : xs[i]? = some x) : ∃ r, t[i]? = some r ∧ Dp K H x (dOuts r) := by
  obtain ⟨d, hd, hx⟩ := dps_getV h hi
  rw [List.getElem?_map] at hd
  cases e : t[i]? with
  | none => rw [e] at hd; cases hd
  | some r =>
    rw [e] at hd
    obtain rfl := Option.some.inj hd
    exact ⟨r, rfl, hx⟩
theorem bls_len (l : List Bool) : (l.map V.bl).length = l.length := List.length_map _
/-! ### words of a reader's arrows -/
def spWords (K : PySem.W.Frag) (C : Addr) : Sp := fun vs H Q _ => ∃ (v : V) (p w n : Nat) (tab : Tab) (ends : List Nat) (t : Tw), vs = [v, .ref p, .int (n : Int)] ∧ Dp K H v (dWords t) ∧ RdAt K C H p w tab ends ∧ GoodT w tab ∧
  t.map (·.map Option.isSome) = tab.map (·.map Option.isSome) ∧ (∀ r ∈ t, ∀ l, some l ∈ r → GoodW l) ∧ 2 ≤ n ∧ n ≤ 8 ∧ ∀ H', Same H H' → Q (.bl true) H'
theorem opt_isN (o : Option Nat) : (!decide (vO o = V.non)) = o.isSome := by
  cases o <;> rfl
theorem ok_is_words (T : Txt K mg A) (U : Funs K A fd) : FnOk P w K mg base CX0 7 A.is_words fd.is_words p_is_words (spWords K A.C) := by
  have b_is_output := U.b_is_output
  have G_is_output := ok_is_output (P := P) (w := w) (base := base) T U
  have b_Reader_arrows := U.b_Reader_arrows
  have G_Reader_arrows := ok_Reader_arrows (P := P) (w := w) (base := base) T U
  have b_Reader_len := U.b_Reader_len
  have G_Reader_len := ok_Reader_len (P := P) (w := w) (base := base) T U
  refine U.F_is_words.ok sc_is_words (fun vs H Q E h => ?_) (fun cdv A0 outer s H vs Q E hr h => ?_)
  · obtain ⟨v, p, m, n, tab, ends, t, rfl, _⟩ := h
    rfl
  · have hu := hu_of hr
    obtain ⟨v, p, m, n, tab, ends, t, rfl, hd, R, gt, sh, gw, n2, n8, k⟩ := h
    refine ⟨_, (pss_cons (ps_if (PW.pt (pw_or (pt_not (pt_val (pe_callB (w_isi (K := K)) (by rfl) T.b_isinstance (by decide +kernel) (pa_cons (pv 0) (pa_cons (pe_bltn (v := .ty "tuple") (u := .type "tuple") (by rfl) T.b_tuple (by decide +kernel) rfl) pa_nil))))) (pw_or1 (pt_cmpR op_ne (pe_callB (w_len (K := K)) (by rfl) T.b_len (by decide +kernel) (pa_cons (pv 0) pa_nil)) (pe_callB (call_lenO G_Reader_len (hr.mono (by decide)) T.own_len T.isf_len b_Reader_len pass0) (by rfl) T.b_len PySem.boot_len (pa_cons (pv 1) pa_nil)) (nomark _))))) (pss_one (ps_ret pe_bl)) pss_nil)
       (pss_cons (ps_setLc (i := 3) (own := [("goals", 4)]) (g := gName 4) (tt := tYes) (by rfl) sc_is_words.nd rfl rfl (sw_true rfl rfl rfl (by decide +kernel)) (w_piT (K := K) (pe_prop (pv 1) T.cl T.p_Reader_arrows G_Reader_arrows (hr.mono (by decide)) b_Reader_arrows .nil pass0 rfl)) (blkOk_by (own := [("goals", 4)]) (by rfl)) (fun _ _ _ _ _ => (pg_name (i := 4) sc_is_words.nd rfl (Or.inl rfl))) (fun _ _ _ _ _ => pts_nil) (fun _ _ _ _ _ => (pe_lc (own := [("goal", 5)]) (g := gName 5) (tt := tYes) (by rfl) sc_is_words.nd (w_piT (K := K) (pv 4)) (blkOk_by (own := [("goal", 5)]) (by rfl)) (fun _ _ _ _ _ => (pg_name (i := 5) sc_is_words.nd rfl (Or.inl rfl))) (fun _ _ _ _ _ => pts_nil) (fun _ _ _ _ _ => (pe_cmpR op_notN (pv 5) pe_non (nomark _))))))
       (pss_one (ps_ret (pe_callB (w_all (K := K) rfl) (by rfl) T.b_all (by decide +kernel) (pa_cons (pe_lc (own := [("words", 6), ("arrows", 7)]) (tt := tYes) (by rfl) sc_is_words.nd (pi_zipM (K := K) rfl (by rfl) T.b_zip (pa_cons (pv 0) (pa_cons (pv 3) pa_nil))) (blkOk_by (own := [("words", 6), ("arrows", 7)]) (by rfl)) (fun _ _ _ _ _ => (w_tup (K := K) (n := 2) rfl (pgs_cons (pg_name (i := 6) sc_is_words.nd rfl (Or.inl rfl)) (pgs_cons (pg_name (i := 7) sc_is_words.nd rfl (Or.inl rfl)) pgs_nil)))) (fun _ _ _ _ _ => pts_nil) (fun _ _ _ _ _ => (pe_call G_is_output (hr.mono (by decide)) (by rfl) T.m_is_output T.k_is_output b_is_output .nil pass0 (pa_cons (pv 6) (pa_cons (pv 7) (pa_cons (pv 2) pa_nil)))))) pa_nil)))))), ?_⟩
    obtain ⟨a, xs, rfl, hx, hds⟩ := dp_tup hd
    have hl : xs.length = t.length := by rw [dps_len hds, List.length_map]
    have ht : t.length = tab.length := by simpa using congrArg List.length sh
    have l200 := gt.n2
    have w8 := gt.w8
    refine ⟨_, rfl, _, _, _, .type "tuple", true, rfl, .ty _, tupTy hx, kit_ty (by decide +kernel), true, rfl, ?_⟩
    refine iteF ?_
    obtain ⟨dx, aa, ee, h1, h2, h3⟩ := R.ob
    refine ⟨_, rfl, _, _, rfl, .inr ⟨_, hx, rfl⟩, _, rfl, p, dx, _, rfl, h1, p, m, tab, ends, rfl, R, tab.length, rfl, by omega, rfl, _, rfl, ?_⟩
    rw [hl, ht, decide_eq_true rfl]
    refine iteF (g_next ?_)
    obtain ⟨ta, txs, e1, htx, htd⟩ := dp_tup h2
    obtain rfl := V.ref.inj e1
    have htl : txs.length = tab.length := by rw [dps_len htd, List.length_map]
    dsimp only
    refine g_asg (cTN (xs := txs) (fun i => (tab.getD i []).map fun o => .bl o.isSome) (fun R r => ?_) htx (by omega) (fun _ => rfl) (fun i x hi H1 R s1 r => ?_) (fun D acc H1 hD s1 h1' hold => ?_))
    · exact ⟨_, rfl, p, dx, _, rfl, h1, p, dx, _, _, rfl, h1, flds_arrows _ _ _, r⟩
    · obtain ⟨row, hr1, hr2⟩ := row_in htd hi
      obtain ⟨hw, hg⟩ := gt.rows row (List.mem_of_getElem? hr1)
      obtain ⟨b, ys, rfl, hy, hyd⟩ := dp_tup (dp_mono s1 _ _ hr2)
      obtain rfl := dps_opts hyd
      have eD : tab.getD i [] = row := by rw [List.getD_eq_getElem?_getD, hr1]; rfl
      rw [eD] at r
      refine cT (xs := row.map vO) (fun j => [.bl (row.getD j none).isSome]) (fun R r => ?_) hy (fun _ => Nat.le_refl 1) (by rw [List.length_map]; omega) (fun _ => rfl) (fun j x hj => turn_yes fun H2 R s2 q => ?_) (fun E H2 hE s2 h2' => ?_)
      · exact ⟨_, rfl, r⟩
      · rw [List.getElem?_map] at hj
        cases eo : row[j]? with
        | none => rw [eo] at hj; cases hj
        | some o =>
          rw [eo] at hj
          obtain rfl := Option.some.inj hj
          have e2 : row.getD j none = o := by rw [List.getD_eq_getElem?_getD, eo]; rfl
          rw [e2] at q
          refine ⟨_, rfl, rfl, ?_⟩
          have := q H2 (Same.refl _)
          rw [← opt_isN] at this
          exact this
      · rw [List.length_map, pre_map] at h2'
        refine r E H2 hE s2 ?_
        rw [h2']
        congr 2
        apply List.ext_getElem
        · simp
        · intro i h1 h2
          simp at h1 h2
          simp [h2]
    · have hx1 := sqT_mono s1 hx
      have hds1 := dps_mono s1 _ _ hds
      have e0 : acc.length = xs.length := by rw [hold.1, htl, hl, ht]
      dsimp only
      refine g_ret (g_cb ?_)
      refine ⟨_, rfl, _, rfl, false, true, a, D, xs, acc, rfl, hx1, lst_of h1', ?_⟩
      refine lZ (xs := xs) (ys := acc) (fun _ => [.bl true]) hx1 (lst_of h1') e0 (fun _ => Nat.le_refl 1) (by omega) (fun _ _ => rfl) (fun i x y hi hj => turn_yes fun H2 R s2 q => ?_) (fun E H2 hE s2 h2' => ?_)
      · obtain ⟨r, er, hr⟩ := tw_in hds1 hi
        have il : i < tab.length := by have := lt_of_get er; omega
        obtain ⟨q0, eq0, hq0⟩ := hold.2 i (by omega)
        rw [hj] at eq0
        obtain rfl := Option.some.inj eq0
        have er2 : tab[i]? = some tab[i] := List.getElem?_eq_getElem il
        have eD : tab.getD i [] = tab[i] := by rw [List.getD_eq_getElem?_getD, er2]; rfl
        have hq0 : del D H1 q0 = some (HO.lst ((tab.getD i []).map fun o => V.bl o.isSome)) := hq0
        rw [eD] at hq0
        obtain ⟨hw, hg⟩ := gt.rows tab[i] (List.getElem_mem il)
        have shr : r.map Option.isSome = tab[i].map Option.isSome := by
          have := congrArg (fun l => l[i]?) sh
          simp only [List.getElem?_map, er, er2] at this
          exact Option.some.inj this
        have lr : r.length = tab[i].length := by simpa using congrArg List.length shr
        refine ⟨_, rfl, _, rfl, _, rfl, x, q0, r, tab[i].map Option.isSome, n, rfl, dp_mono s2 _ _ hr, lst_of (s2 _ _ (del_same D _ _ ?_)), ⟨shr, gw r (List.mem_of_getElem? er)⟩, by omega, n2, n8, fun H3 s3 => q H3 s3⟩
        rw [hq0, List.map_map]
        rfl
      · rw [replicate_pre] at h2'
        refine ⟨E, List.replicate xs.length true, rfl, lst_of (by rw [← bls]; exact h2'), ?_⟩
        rw [all_true]
        exact k H2 (s1.trans s2)
end K6


set_option Elab.async false
set_option linter.all false
set_option maxRecDepth 100000
set_option maxHeartbeats 4000000
namespace K6
open PySem PySem.Spec PyProof.Rows L2 Rw
variable {P : Program} {w : World} {K : PySem.W.Frag} {mg : Str → Option Value} {base : Heap} {A : Ad} {fd : Fds}
/-! ### data that can be compared -/
theorem eqv_same {d : PyData} (h : SeqAt.shaped d = true) : PyData.eqv d d = true := SeqAt.eqv_refl d (SeqAt.canLay_of_shaped h)
theorem shaped_mk {d : PyData} (h : d.canLay0 = true) (h2 : d.depth ≤ 64) : SeqAt.shaped d = true := by
  unfold SeqAt.shaped
  rw [h, decide_eq_true h2]
  rfl
theorem lay_all {α : Type} (f : α → PyData) : ∀ l : List α, (∀ x ∈ l, (f x).canLay0 = true) → PyData.canLayAll0 (l.map f) = true
  | [], _ => rfl
  | x :: l, h => by
    show ((f x).canLay0 && PyData.canLayAll0 (l.map f)) = true
    rw [h x (List.mem_cons_self ..), lay_all f l fun y hy => h y (List.mem_cons_of_mem _ hy)]
    rfl
theorem dep_all {α : Type} (f : α → PyData) (n : Nat) : ∀ l : List α, (∀ x ∈ l, (f x).depth ≤ n) → PyData.depthAll (l.map f) ≤ n
  | [], _ => Nat.zero_le _
  | x :: l, h => by
    show max (f x).depth (PyData.depthAll (l.map f)) ≤ n
    exact Nat.max_le.mpr ⟨h x (List.mem_cons_self ..), dep_all f n l fun y hy => h y (List.mem_cons_of_mem _ hy)⟩
theorem lay_row (l : Wd) (h : ∀ g ∈ l, g < 1000) : (PyData.str (rowS l)).canLay0 = true := by
  show PyData.strOk (rowS l) = true
  unfold PyData.strOk rowS
  simp only [List.all_toArray, List.all_map, List.all_eq_true, Function.comp_apply, decide_eq_true_eq]
  intro x hx
  have := h x hx
  omega
theorem lay_W {l : List (Option Wd)} (h : ∀ x, some x ∈ l → GoodW x) : ∀ x ∈ l, (dW x).canLay0 = true := by
  intro x hx
  cases x with
  | none => rfl
  | some r => exact lay_row r fun g hg => by have := (h r hx).lt g hg; omega
theorem dep_W (x : Option Wd) : (dW x).depth ≤ 0 := by cases x <;> exact Nat.le_refl 0
theorem outs_lay {l : List (Option Wd)} (h : ∀ x, some x ∈ l → GoodW x) : (dOuts l).canLay0 = true := lay_all dW l (lay_W h)
theorem outs_dep (l : List (Option Wd)) : (dOuts l).depth ≤ 1 := by
  show PyData.depthAll (l.map dW) + 1 ≤ 1
  have := dep_all dW 0 l fun x _ => dep_W x
  omega
theorem words_lay {t : Tw} (h : ∀ r ∈ t, ∀ x, some x ∈ r → GoodW x) : (dWords t).canLay0 = true := lay_all dOuts t fun r hr => outs_lay (h r hr)
theorem words_dep (t : Tw) : (dWords t).depth ≤ 2 := by
  show PyData.depthAll (t.map dOuts) + 1 ≤ 2
  have := dep_all dOuts 1 t fun x _ => outs_dep x
  omega
theorem row_lay (r : List (Option Nat)) : (dRow r).canLay0 = true := lay_all dO r fun x _ => by cases x <;> rfl
theorem row_dep (r : List (Option Nat)) : (dRow r).depth ≤ 1 := by
  show PyData.depthAll (r.map dO) + 1 ≤ 1
  have := dep_all dO 0 r fun x _ => by cases x <;> exact Nat.le_refl 0
  omega
theorem tab_lay (t : Tab) : (dTab t).canLay0 = true := lay_all dRow t fun r _ => row_lay r
theorem tab_dep (t : Tab) : (dTab t).depth ≤ 2 := by
  show PyData.depthAll (t.map dRow) + 1 ≤ 2
  have := dep_all dRow 1 t fun x _ => row_dep x
  omega
theorem nats_lay (l : List Nat) : (dNats l).canLay0 = true := lay_all (fun k : Nat => PyData.int (k : Int)) l fun x _ => rfl
theorem nats_dep (l : List Nat) : (dNats l).depth ≤ 1 := by
  show PyData.depthAll (l.map fun k : Nat => PyData.int (k : Int)) + 1 ≤ 1
  have := dep_all (fun k : Nat => PyData.int (k : Int)) 0 l fun x _ => Nat.le_refl 0
  omega
theorem outs_shaped {l : List (Option Wd)} (h : ∀ x, some x ∈ l → GoodW x) : SeqAt.shaped (dOuts l) = true := shaped_mk (outs_lay h) (by have := outs_dep l; omega)
theorem words_shaped {t : Tw} (h : ∀ r ∈ t, ∀ x, some x ∈ r → GoodW x) : SeqAt.shaped (dWords t) = true := shaped_mk (words_lay h) (by have := words_dep t; omega)
theorem tab_shaped (t : Tab) : SeqAt.shaped (dTab t) = true := shaped_mk (tab_lay t) (by have := tab_dep t; omega)
theorem nats_shaped (l : List Nat) : SeqAt.shaped (dNats l) = true := shaped_mk (nats_lay l) (by have := nats_dep l; omega)
/-- one more of a chain of ands -/
theorem and_go {b rest : Bool} {Q : VK} {H : Hp} {X : Prop} (h : Q (.bl (b && rest)) H) (t : b = true → Q (.bl rest) H → X) : if b = true then X else Q (.bl false) H := by
  cases b with
  | true => exact t rfl h
  | false => exact h
/-! ### equal readers -/
def eqR (n m : Nat) (tab tab' : Tab) (ends ends' : List Nat) : Bool := decide (V.int (n : Int) = V.int (m : Int)) && (PyData.eqv (dTab tab) (dTab tab') && PyData.eqv (dNats ends) (dNats ends'))
def spEqR (K : PySem.W.Frag) (C : Addr) : Sp := fun vs H Q _ => ∃ p q n m tab tab' ends ends', vs = [.ref p, .ref q] ∧ RdAt K C H p n tab ends ∧ RdAt K C H q m tab' ends' ∧ Q (.bl (eqR n m tab tab' ends ends')) H
theorem ok_Reader_eq (T : Txt K mg A) (U : Funs K A fd) : FnOk P w K mg base CX0 1 A.Reader_eq fd.Reader_eq p_Reader_eq (spEqR K A.C) := by
  refine U.F_Reader_eq.ok sc_Reader_eq (fun vs H Q E h => ?_) (fun cdv A0 outer s H vs Q E hr h => ?_)
  · obtain ⟨p, q, n, m, tab, tab', ends, ends', rfl, _⟩ := h
    rfl
  · have hu := hu_of hr
    obtain ⟨p, q, n, m, tab, tab', ends, ends', rfl, R1, R2, k⟩ := h
    refine ⟨_, (pss_one (ps_ret (pe_and (pe_callB (w_isi (K := K)) (by rfl) T.b_isinstance (by decide +kernel) (pa_cons (pv 1) (pa_cons (pe_glob (v := .ref A.C) (by rfl) T.m_Reader rfl) pa_nil))) (pe_and (pe_cmpR op_eq (pe_fld (pv 0) rfl) (pe_fld (pv 1) rfl) (nomark _)) (pe_and (pe_cmpR (w_eqD (K := K) hr.units) (pe_fld (pv 0) rfl) (pe_fld (pv 1) rfl) (nomark _)) (pe_one (pe_cmpR (w_eqD (K := K) hr.units) (pe_fld (pv 0) rfl) (pe_fld (pv 1) rfl) (nomark _)))))))), ?_⟩
    obtain ⟨dx, a, e, h1, h2, h3⟩ := R1.ob
    obtain ⟨dy, a', e', h1', h2', h3'⟩ := R2.ob
    unfold eqR at k
    refine ⟨_, rfl, .ref q, .ref A.C, .ref A.C, .ref A.C, true, rfl, .own _, insTy T h1', kit_self _, true, rfl, ?_⟩
    refine iteT ?_
    refine ⟨_, rfl, p, A.C, dx, _, _, rfl, h1, T.cl, T.na_signs, flds_signs _ _ _, _, rfl, q, A.C, dy, _, _, rfl, h1', T.cl, T.na_signs, flds_signs _ _ _, rfl, _, rfl, ?_⟩
    refine and_go k fun _ k => ?_
    refine ⟨_, rfl, p, A.C, dx, _, _, rfl, h1, T.cl, T.na_arrows, flds_arrows _ _ _, _, rfl, q, A.C, dy, _, _, rfl, h1', T.cl, T.na_arrows, flds_arrows _ _ _, dTab tab, dTab tab', h2, h2', tab_shaped _, tab_shaped _, _, rfl, ?_⟩
    refine and_go k fun _ k => ?_
    exact ⟨_, rfl, p, A.C, dx, _, _, rfl, h1, T.cl, T.na_ends, flds_ends _ _ _, _, rfl, q, A.C, dy, _, _, rfl, h1', T.cl, T.na_ends, flds_ends _ _ _, dNats ends, dNats ends', h3, h3', nats_shaped _, nats_shaped _, k⟩
/-! ### writers -/
theorem kw1 : ¬ (("_reader" : Str) = "_signs") := by decide +kernel
theorem kw2 : ¬ (("_reader" : Str) = "_start") := by decide +kernel
theorem kw3 : ¬ (("_reader" : Str) = "_words") := by decide +kernel
theorem kw4 : ¬ (("_reader" : Str) = "_lasts") := by decide +kernel
theorem kw5 : ¬ (("_signs" : Str) = "_start") := by decide +kernel
theorem kw6 : ¬ (("_signs" : Str) = "_words") := by decide +kernel
theorem kw7 : ¬ (("_signs" : Str) = "_lasts") := by decide +kernel
theorem kw8 : ¬ (("_start" : Str) = "_words") := by decide +kernel
theorem kw9 : ¬ (("_start" : Str) = "_lasts") := by decide +kernel
theorem kw0 : ¬ (("_words" : Str) = "_lasts") := by decide +kernel
def wflds (pr : Addr) (n : Nat) (f : Wd) (aw al : Addr) : List (Str × V) := putF "_lasts" (.ref al) (putF "_words" (.ref aw) (putF "_start" (.str (rowS f)) (putF "_signs" (.int (n : Int)) (putF "_reader" (.ref pr) []))))
section
variable (pr : Addr) (n : Nat) (f : Wd) (aw al : Addr)
theorem wf_reader : (wflds pr n f aw al).lookup ("_reader" : Str) = some (.ref pr) := by
  unfold wflds
  rw [lookup_putF, if_neg kw4, lookup_putF, if_neg kw3, lookup_putF, if_neg kw2, lookup_putF, if_neg kw1, lookup_putF, if_pos rfl]
theorem wf_signs : (wflds pr n f aw al).lookup ("_signs" : Str) = some (.int (n : Int)) := by
  unfold wflds
  rw [lookup_putF, if_neg kw7, lookup_putF, if_neg kw6, lookup_putF, if_neg kw5, lookup_putF, if_pos rfl]
theorem wf_start : (wflds pr n f aw al).lookup ("_start" : Str) = some (.str (rowS f)) := by
  unfold wflds
  rw [lookup_putF, if_neg kw9, lookup_putF, if_neg kw8, lookup_putF, if_pos rfl]
theorem wf_words : (wflds pr n f aw al).lookup ("_words" : Str) = some (.ref aw) := by
  unfold wflds
  rw [lookup_putF, if_neg kw0, lookup_putF, if_pos rfl]
theorem wf_lasts : (wflds pr n f aw al).lookup ("_lasts" : Str) = some (.ref al) := by
  unfold wflds
  rw [lookup_putF, if_pos rfl]
end
theorem putF_len (f : Str) (v : V) : ∀ fs : List (Str × V), (putF f v fs).length ≤ fs.length + 1
  | [] => Nat.le_refl _
  | (g, x) :: r => by
    unfold putF
    by_cases c : g = f
    · rw [if_pos c]
      exact Nat.le_succ _
    · rw [if_neg c]
      have := putF_len f v r
      simp only [List.length_cons]
      omega
structure WrAt (K : PySem.W.Frag) (A : Ad) (H : Hp) (p : Addr) (m n : Nat) (S : Scr) : Prop where
  ob : ∃ dx pr aw al, H p = some (.ins A.C_Writer dx (wflds pr n S.first aw al)) ∧ RdAt K A.C H pr m S.tab S.ends ∧ Dp K H (.ref aw) (dWords S.words) ∧ Dp K H (.ref al) (dOuts S.lasts)
theorem WrAt.mono {H H' : Hp} {p m n : Nat} {S : Scr} (h : WrAt K A H p m n S) (s : Same H H') : WrAt K A H' p m n S := by
  obtain ⟨dx, pr, aw, al, h1, h2, h3, h4⟩ := h.ob
  exact ⟨dx, pr, aw, al, s _ _ h1, h2.mono s, dp_mono s _ _ h3, dp_mono s _ _ h4⟩
def spInitW (K : PySem.W.Frag) (A : Ad) : Sp := fun vs H Q _ => ∃ (p dx pr aw al : Addr) (m n : Nat) (S : Scr), vs = [.ref p, .ref pr, .int (n : Int), .str (rowS S.first), .ref aw, .ref al] ∧ H p = some (.ins A.C_Writer dx []) ∧
  RdAt K A.C H pr m S.tab S.ends ∧ Dp K H (.ref aw) (dWords S.words) ∧ Dp K H (.ref al) (dOuts S.lasts) ∧ GoodS m S ∧ 2 ≤ n ∧ n ≤ 8 ∧
  ∀ H', (∀ b o, H b = some o → b ≠ p → H' b = some o) → H' p = some (.ins A.C_Writer dx (wflds pr n S.first aw al)) → Q .non H'
theorem flags_bls (S : Scr) : flags S.tab.length S.ends = (eflags S).map V.bl := by
  unfold flags eflags
  rw [List.map_map]
  rfl
theorem ok_Writer_init (T : Txt K mg A) (U : Funs K A fd) : FnOk P w K mg base CX0 10 A.Writer_init fd.Writer_init p_Writer_init (spInitW K A) := by
  have b_is_output := U.b_is_output
  have G_is_output := ok_is_output (P := P) (w := w) (base := base) T U
  have b_end_flags := U.b_end_flags
  have G_end_flags := ok_end_flags (P := P) (w := w) (base := base) T U
  have b_is_words := U.b_is_words
  have G_is_words := ok_is_words (P := P) (w := w) (base := base) T U
  have b_is_row := U.b_is_row
  have G_is_row := ok_is_row (P := P) (w := w) (base := base) T U
  have b_check_signs := U.b_check_signs
  have G_check_signs := ok_check_signs (P := P) (w := w) (base := base) T U
  have b_check_reader := U.b_check_reader
  have G_check_reader := ok_check_reader (P := P) (w := w) (base := base) T U
  refine U.F_Writer_init.ok sc_Writer_init (fun vs H Q E h => ?_) (fun cdv A0 outer s H vs Q E hr h => ?_)
  · obtain ⟨p, dx, pr, aw, al, m, n, S, rfl, _⟩ := h
    rfl
  · have hu := hu_of hr
    obtain ⟨p, dx, pr, aw, al, m, n, S, rfl, hp, R, hw, hlst, gs, n2, n8, q⟩ := h
    refine ⟨_, (pss_cons (ps_expr (pe_call G_check_reader (hr.mono (by decide)) (by rfl) T.m_check_reader T.k_check_reader b_check_reader .nil pass0 (pa_cons (pv 1) pa_nil)))
       (pss_cons (ps_expr (pe_call G_check_signs (hr.mono (by decide)) (by rfl) T.m_check_signs T.k_check_signs b_check_signs .nil pass0 (pa_cons (pv 2) pa_nil)))
       (pss_cons (ps_if (pt_not (pt_val (pe_call G_is_row (hr.mono (by decide)) (by rfl) T.m_is_row T.k_is_row b_is_row .nil pass0 (pa_cons (pv 3) (pa_cons (pv 2) (pa_cons (pe_glob (v := .int 4) (by rfl) T.c_MOST_WORD.choose_spec ⟨_, rfl⟩) pa_nil)))))) (pss_one ps_never) pss_nil)
       (pss_cons (ps_if (pt_not (pt_val (pe_call G_is_words (hr.mono (by decide)) (by rfl) T.m_is_words T.k_is_words b_is_words .nil pass0 (pa_cons (pv 4) (pa_cons (pv 1) (pa_cons (pv 2) pa_nil)))))) (pss_one ps_never) pss_nil)
       (pss_cons (ps_if (pt_not (pt_val (pe_call G_is_output (hr.mono (by decide)) (by rfl) T.m_is_output T.k_is_output b_is_output .nil pass0 (pa_cons (pv 5) (pa_cons (pe_call G_end_flags (hr.mono (by decide)) (by rfl) T.m_end_flags T.k_end_flags b_end_flags .nil pass0 (pa_cons (pv 1) pa_nil)) (pa_cons (pv 2) pa_nil)))))) (pss_one ps_never) pss_nil)
       (pss_cons (ps_fld (pv 0) (pv 1) rfl)
       (pss_cons (ps_fld (pv 0) (pv 2) rfl)
       (pss_cons (ps_fld (pv 0) (pv 3) rfl)
       (pss_cons (ps_fld (pv 0) (pv 4) rfl)
       (pss_one (ps_fld (pv 0) (pv 5) rfl))))))))))), ?_⟩
    have gt := gs.gt
    have l200 := gt.n2
    refine ⟨_, rfl, pr, m, S.tab, S.ends, rfl, R, ?_⟩
    refine ⟨_, rfl, _, rfl, by omega, by omega, ?_⟩
    refine ⟨_, rfl, _, rfl, S.first, n, 4, rfl, n8, gs.fst.len, by decide, fun g hg => by have := gs.fst.lt g hg; omega, fun H1 s1 => ⟨_, rfl, iteF (g_next ?_)⟩⟩
    refine ⟨_, rfl, _, rfl, _, rfl, _, pr, m, n, S.tab, S.ends, S.words, rfl, dp_mono s1 _ _ hw, R.mono s1, gt, gs.wds, gs.wgood, n2, n8, fun H2 s2 => ⟨_, rfl, iteF (g_next ?_)⟩⟩
    have s12 := s1.trans s2
    refine ⟨_, rfl, _, rfl, pr, m, S.tab, S.ends, rfl, R.mono s12, gs.ge, l200, fun qf H3 hqf s3 hf => ?_⟩
    rw [flags_bls] at hf
    have s13 := s12.trans s3
    refine ⟨_, rfl, _, qf, S.lasts, eflags S, n, rfl, dp_mono s13 _ _ hlst, lst_of hf, gs.lst, by rw [gs.llen]; omega, n2, n8, fun H4 s4 => ⟨_, rfl, iteF (g_next ?_)⟩⟩
    have s14 := s13.trans s4
    have hp4 := s14 _ _ hp
    refine ⟨_, rfl, _, rfl, p, A.C_Writer, dx, _, rfl, hp4, T.cl_Writer, T.na_Writer_reader, (by show 0 < 1000; decide), ?_⟩
    have k1 := putF_len "_reader" (.ref pr) []
    refine ⟨_, rfl, _, rfl, p, A.C_Writer, dx, _, rfl, upd_same, T.cl_Writer, T.na_Writer_signs, Nat.lt_of_le_of_lt k1 (by decide), ?_⟩
    have k2 := Nat.le_trans (putF_len "_signs" (.int (n : Int)) (putF "_reader" (.ref pr) [])) (Nat.succ_le_succ k1)
    refine ⟨_, rfl, _, rfl, p, A.C_Writer, dx, _, rfl, upd_same, T.cl_Writer, T.na_Writer_start, Nat.lt_of_le_of_lt k2 (by decide), ?_⟩
    have k3 := Nat.le_trans (putF_len "_start" (.str (rowS S.first)) (putF "_signs" (.int (n : Int)) (putF "_reader" (.ref pr) []))) (Nat.succ_le_succ k2)
    refine ⟨_, rfl, _, rfl, p, A.C_Writer, dx, _, rfl, upd_same, T.cl_Writer, T.na_Writer_words, Nat.lt_of_le_of_lt k3 (by decide), ?_⟩
    have k4 := Nat.le_trans (putF_len "_words" (.ref aw) (putF "_start" (.str (rowS S.first)) (putF "_signs" (.int (n : Int)) (putF "_reader" (.ref pr) [])))) (Nat.succ_le_succ k3)
    refine ⟨_, rfl, _, rfl, p, A.C_Writer, dx, _, rfl, upd_same, T.cl_Writer, T.na_Writer_lasts, Nat.lt_of_le_of_lt k4 (by decide), ?_⟩
    refine q _ (fun b o hb hne => ?_) upd_same
    rw [upd_ne hne, upd_ne hne, upd_ne hne, upd_ne hne, upd_ne hne]
    exact s14 _ _ hb
theorem ok_Writer_reader (T : Txt K mg A) (U : Funs K A fd) : FnOk P w K mg base CX0 1 A.Writer_reader fd.Writer_reader p_Writer_reader (spGet A.C_Writer "_reader") := by
  refine U.F_Writer_reader.ok sc_Writer_reader (fun vs H Q E h => ?_) (fun cdv A0 outer s H vs Q E hr h => ?_)
  · obtain ⟨a, dx, fs, v, rfl, _⟩ := h
    rfl
  · have hu := hu_of hr
    obtain ⟨a, dx, fs, v, rfl, ea, l, q⟩ := h
    refine ⟨_, (pss_one (ps_ret (pe_fld (pv 0) rfl))), ?_⟩
    exact ⟨_, rfl, a, A.C_Writer, dx, fs, v, rfl, ea, T.cl_Writer, T.na_Writer_reader, l, q⟩
theorem ok_Writer_signs (T : Txt K mg A) (U : Funs K A fd) : FnOk P w K mg base CX0 1 A.Writer_signs fd.Writer_signs p_Writer_signs (spGet A.C_Writer "_signs") := by
  refine U.F_Writer_signs.ok sc_Writer_signs (fun vs H Q E h => ?_) (fun cdv A0 outer s H vs Q E hr h => ?_)
  · obtain ⟨a, dx, fs, v, rfl, _⟩ := h
    rfl
  · have hu := hu_of hr
    obtain ⟨a, dx, fs, v, rfl, ea, l, q⟩ := h
    refine ⟨_, (pss_one (ps_ret (pe_fld (pv 0) rfl))), ?_⟩
    exact ⟨_, rfl, a, A.C_Writer, dx, fs, v, rfl, ea, T.cl_Writer, T.na_Writer_signs, l, q⟩
theorem ok_Writer_start (T : Txt K mg A) (U : Funs K A fd) : FnOk P w K mg base CX0 1 A.Writer_start fd.Writer_start p_Writer_start (spGet A.C_Writer "_start") := by
  refine U.F_Writer_start.ok sc_Writer_start (fun vs H Q E h => ?_) (fun cdv A0 outer s H vs Q E hr h => ?_)
  · obtain ⟨a, dx, fs, v, rfl, _⟩ := h
    rfl
  · have hu := hu_of hr
    obtain ⟨a, dx, fs, v, rfl, ea, l, q⟩ := h
    refine ⟨_, (pss_one (ps_ret (pe_fld (pv 0) rfl))), ?_⟩
    exact ⟨_, rfl, a, A.C_Writer, dx, fs, v, rfl, ea, T.cl_Writer, T.na_Writer_start, l, q⟩
theorem ok_Writer_words (T : Txt K mg A) (U : Funs K A fd) : FnOk P w K mg base CX0 1 A.Writer_words fd.Writer_words p_Writer_words (spGet A.C_Writer "_words") := by
  refine U.F_Writer_words.ok sc_Writer_words (fun vs H Q E h => ?_) (fun cdv A0 outer s H vs Q E hr h => ?_)
  · obtain ⟨a, dx, fs, v, rfl, _⟩ := h
    rfl
  · have hu := hu_of hr
    obtain ⟨a, dx, fs, v, rfl, ea, l, q⟩ := h
    refine ⟨_, (pss_one (ps_ret (pe_fld (pv 0) rfl))), ?_⟩
    exact ⟨_, rfl, a, A.C_Writer, dx, fs, v, rfl, ea, T.cl_Writer, T.na_Writer_words, l, q⟩
theorem ok_Writer_lasts (T : Txt K mg A) (U : Funs K A fd) : FnOk P w K mg base CX0 1 A.Writer_lasts fd.Writer_lasts p_Writer_lasts (spGet A.C_Writer "_lasts") := by
  refine U.F_Writer_lasts.ok sc_Writer_lasts (fun vs H Q E h => ?_) (fun cdv A0 outer s H vs Q E hr h => ?_)
  · obtain ⟨a, dx, fs, v, rfl, _⟩ := h
    rfl
  · have hu := hu_of hr
    obtain ⟨a, dx, fs, v, rfl, ea, l, q⟩ := h
    refine ⟨_, (pss_one (ps_ret (pe_fld (pv 0) rfl))), ?_⟩
    exact ⟨_, rfl, a, A.C_Writer, dx, fs, v, rfl, ea, T.cl_Writer, T.na_Writer_lasts, l, q⟩
theorem insTyW (T : Txt K mg A) {H : Hp} {p dx : Addr} {fs : List (Str × V)} (h : H p = some (.ins A.C_Writer dx fs)) : TyX K H (.ref p) (.ref A.C_Writer) := .base (.ins h T.cl_Writer T.t_ha_Writer T.t_hn T.t_tk T.t_mo_Writer)
def spCkW (K : PySem.W.Frag) (A : Ad) : Sp := fun vs H Q _ => ∃ p m n S, vs = [.ref p] ∧ WrAt K A H p m n S ∧ Q .non H
theorem ok_check_writer (T : Txt K mg A) (U : Funs K A fd) : FnOk P w K mg base CX0 1 A.check_writer fd.check_writer p_check_writer (spCkW K A) := by
  refine U.F_check_writer.ok sc_check_writer (fun vs H Q E h => ?_) (fun cdv A0 outer s H vs Q E hr h => ?_)
  · obtain ⟨p, m, n, S, rfl, _⟩ := h
    rfl
  · have hu := hu_of hr
    obtain ⟨p, m, n, S, rfl, W, q⟩ := h
    refine ⟨_, (pss_one (ps_if (pt_not (pt_val (pe_callB (w_isi (K := K)) (by rfl) T.b_isinstance (by decide +kernel) (pa_cons (pv 0) (pa_cons (pe_glob (v := .ref A.C_Writer) (by rfl) T.m_Writer rfl) pa_nil))))) (pss_one ps_never) pss_nil)), ?_⟩
    obtain ⟨dx, pr, aw, al, h1, _⟩ := W.ob
    exact ⟨_, rfl, .ref p, .ref A.C_Writer, .ref A.C_Writer, .ref A.C_Writer, true, rfl, .own _, insTyW T h1, kit_self _, true, rfl, iteF (g_next q)⟩
/-! ### equal writers -/
def eqS (m m' n n' : Nat) (S S' : Scr) : Bool := eqR m m' S.tab S'.tab S.ends S'.ends && (decide (V.int (n : Int) = V.int (n' : Int)) && (decide (V.str (rowS S.first) = V.str (rowS S'.first)) && (PyData.eqv (dWords S.words) (dWords S'.words) && PyData.eqv (dOuts S.lasts) (dOuts S'.lasts))))
def spEqW (K : PySem.W.Frag) (A : Ad) : Sp := fun vs H Q _ => ∃ (p m n : Nat) (S : Scr) (y : V), vs = [.ref p, y] ∧ WrAt K A H p m n S ∧ GoodS m S ∧
  ((∃ (q m' n' : Nat) (S' : Scr), y = .ref q ∧ WrAt K A H q m' n' S' ∧ GoodS m' S' ∧ Q (.bl (eqS m m' n n' S S')) H) ∨ (∃ q m' tab ends, y = .ref q ∧ RdAt K A.C H q m' tab ends ∧ Q (.bl false) H) ∨ ∃ q xs, y = .ref q ∧ SqT K H q xs ∧ Q (.bl false) H)
theorem ok_Writer_eq (T : Txt K mg A) (U : Funs K A fd) : FnOk P w K mg base CX0 4 A.Writer_eq fd.Writer_eq p_Writer_eq (spEqW K A) := by
  have b_Reader_eq := U.b_Reader_eq
  have G_Reader_eq := ok_Reader_eq (P := P) (w := w) (base := base) T U
  refine U.F_Writer_eq.ok sc_Writer_eq (fun vs H Q E h => ?_) (fun cdv A0 outer s H vs Q E hr h => ?_)
  · obtain ⟨p, m, n, S, y, rfl, _⟩ := h
    rfl
  · have hu := hu_of hr
    obtain ⟨p, m, n, S, y, rfl, W, gs, h⟩ := h
    refine ⟨_, (pss_one (ps_ret (pe_and (pe_callB (w_isi (K := K)) (by rfl) T.b_isinstance (by decide +kernel) (pa_cons (pv 1) (pa_cons (pe_glob (v := .ref A.C_Writer) (by rfl) T.m_Writer rfl) pa_nil))) (pe_and (pe_cmpR (op_eqO G_Reader_eq (hr.mono (by decide)) T.own_eq T.isf_eq b_Reader_eq pass0) (pe_fld (pv 0) rfl) (pe_fld (pv 1) rfl) (nomark _)) (pe_and (pe_cmpR op_eq (pe_fld (pv 0) rfl) (pe_fld (pv 1) rfl) (nomark _)) (pe_and (pe_cmpR op_eq (pe_fld (pv 0) rfl) (pe_fld (pv 1) rfl) (nomark _)) (pe_and (pe_cmpR (w_eqD (K := K) hr.units) (pe_fld (pv 0) rfl) (pe_fld (pv 1) rfl) (nomark _)) (pe_one (pe_cmpR (w_eqD (K := K) hr.units) (pe_fld (pv 0) rfl) (pe_fld (pv 1) rfl) (nomark _)))))))))), ?_⟩
    obtain ⟨dx, pr, aw, al, h1, h2, h3, h4⟩ := W.ob
    rcases h with ⟨q, m', n', S', rfl, W', gs', k⟩ | ⟨q, m', tab, ends, rfl, R, k⟩ | ⟨q, xs, rfl, hx, k⟩
    · obtain ⟨dy, pr', aw', al', h1', h2', h3', h4'⟩ := W'.ob
      unfold eqS at k
      refine ⟨_, rfl, .ref q, .ref A.C_Writer, .ref A.C_Writer, .ref A.C_Writer, true, rfl, .own _, insTyW T h1', kit_self _, true, rfl, ?_⟩
      refine iteT ?_
      obtain ⟨dr, ar, er, g1, g2, g3⟩ := h2.ob
      obtain ⟨dr', ar', er', g1', g2', g3'⟩ := h2'.ob
      refine ⟨_, rfl, p, A.C_Writer, dx, _, _, rfl, h1, T.cl_Writer, T.na_Writer_reader, wf_reader _ _ _ _ _, _, rfl, q, A.C_Writer, dy, _, _, rfl, h1', T.cl_Writer, T.na_Writer_reader, wf_reader _ _ _ _ _, ?_⟩
      refine ⟨pr, dr, _, rfl, g1, .inl ⟨pr', A.C, dr', _, rfl, g1', T.nf_Reader⟩, pr, pr', m, m', S.tab, S'.tab, S.ends, S'.ends, rfl, h2, h2', _, rfl, _, rfl, ?_⟩
      refine and_go k fun _ k => ?_
      refine ⟨_, rfl, p, A.C_Writer, dx, _, _, rfl, h1, T.cl_Writer, T.na_Writer_signs, wf_signs _ _ _ _ _, _, rfl, q, A.C_Writer, dy, _, _, rfl, h1', T.cl_Writer, T.na_Writer_signs, wf_signs _ _ _ _ _, rfl, _, rfl, ?_⟩
      refine and_go k fun _ k => ?_
      refine ⟨_, rfl, p, A.C_Writer, dx, _, _, rfl, h1, T.cl_Writer, T.na_Writer_start, wf_start _ _ _ _ _, _, rfl, q, A.C_Writer, dy, _, _, rfl, h1', T.cl_Writer, T.na_Writer_start, wf_start _ _ _ _ _, rfl, _, rfl, ?_⟩
      refine and_go k fun _ k => ?_
      refine ⟨_, rfl, p, A.C_Writer, dx, _, _, rfl, h1, T.cl_Writer, T.na_Writer_words, wf_words _ _ _ _ _, _, rfl, q, A.C_Writer, dy, _, _, rfl, h1', T.cl_Writer, T.na_Writer_words, wf_words _ _ _ _ _, _, _, h3, h3', words_shaped gs.wgood, words_shaped gs'.wgood, _, rfl, ?_⟩
      refine and_go k fun _ k => ?_
      exact ⟨_, rfl, p, A.C_Writer, dx, _, _, rfl, h1, T.cl_Writer, T.na_Writer_lasts, wf_lasts _ _ _ _ _, _, rfl, q, A.C_Writer, dy, _, _, rfl, h1', T.cl_Writer, T.na_Writer_lasts, wf_lasts _ _ _ _ _, _, _, h4, h4', outs_shaped gs.lst.good, outs_shaped gs'.lst.good, k⟩
    · obtain ⟨dr, ar, er, g1, g2, g3⟩ := R.ob
      refine ⟨_, rfl, .ref q, .ref A.C_Writer, .ref A.C, .ref A.C_Writer, false, rfl, .own _, insTy T g1, T.kc_Writer_Reader, false, rfl, ?_⟩
      exact iteF k
    · refine ⟨_, rfl, .ref q, .ref A.C_Writer, .type "tuple", .ref A.C_Writer, false, rfl, .own _, tupTy hx, T.kc_Writer_tuple, false, rfl, ?_⟩
      exact iteF k
end K6


set_option Elab.async false
set_option linter.all false
set_option maxRecDepth 100000
set_option maxHeartbeats 4000000
namespace K6
open PySem PySem.Spec PyProof.Rows L2 Rw
variable {P : Program} {w : World} {K : PySem.W.Frag} {mg : Str → Option Value} {base : Heap} {A : Ad} {fd : Fds}
theorem inV_nats (ends : List Nat) (s : Option Nat) : inV (vO s) (ends.map fun (k : Nat) => V.int (k : Int)) = (match s with | some k => decide (k ∈ ends) | none => false) := by
  unfold inV
  induction ends with
  | nil => cases s <;> rfl
  | cons e ends ih =>
    rw [List.map_cons, List.any_cons, ih]
    cases s with
    | none => rfl
    | some k =>
      show (eqV (.int (e : Int)) (.int (k : Int)) || decide (k ∈ ends)) = decide (k ∈ e :: ends)
      by_cases c : e = k
      · subst c
        have : eqV (.int (e : Int)) (.int (e : Int)) = true := by simp [eqV]
        rw [this]
        simp
      · have : eqV (.int (e : Int)) (.int (k : Int)) = false := by simp [eqV]; omega
        rw [this]
        have : k ≠ e := fun z => c z.symm
        simp [this]
theorem flat_ints (ends : List Nat) : (ends.map fun (k : Nat) => V.int (k : Int)).all flatV = true := by
  simp [flatV]
theorem flat_vO (s : Option Nat) : flatV (vO s) = true := by cases s <;> rfl
theorem dps_nats {H : Hp} {xs : List V} {ends : List Nat} (h : DpAll K H xs (ends.map fun (k : Nat) => PyData.int (k : Int))) : xs = ends.map fun (k : Nat) => V.int (k : Int) := by
  rw [nats_int] at h
  have e := dps_ints h
  rw [e, List.map_map]
  rfl

theorem for_str {z : Str} {g : TG} {tb : TS} {D : Ends} {σ : L2.St} {H : Hp} (Pv : Nat → L2.St → Hp → Prop) (h0 : Pv 0 σ H)
    (hs : ∀ i c σ H, z.cps[i]? = some c → Pv i σ H → g (.str ⟨#[c]⟩) σ H fun σ2 H2 => tb { D with nx := Pv (i + 1), ct := Pv (i + 1), bk := D.nx } σ2 H2) (hd : ∀ σ H, Pv z.cps.size σ H → D.nx σ H) :
    ∃ W : Nat → Nat → L2.St → Hp → Prop, (∃ m, W 0 m σ H) ∧ ∀ i m σ H, W i m σ H →
      ((Its z).stop i H ∧ D.nx σ H) ∨ ((Its z).go i H ∧ ∃ N : L2.St → Hp → Prop, (∀ σ' H', N σ' H' → ∃ m', m' < m ∧ W (i + 1) m' σ' H') ∧ ∀ x H', (Its z).yld i H x H' → g x σ H' fun σ2 H2 => tb { D with nx := N, ct := N, bk := D.nx } σ2 H2) := by
  refine ⟨fun i m σ H => m = z.cps.size - i ∧ i ≤ z.cps.size ∧ Pv i σ H, ⟨z.cps.size, by simp, Nat.zero_le _, h0⟩, ?_⟩
  rintro i m σ H ⟨rfl, hi, p⟩
  by_cases hlt : i < z.cps.size
  · refine .inr ⟨hlt, Pv (i + 1), fun σ' H' p' => ⟨z.cps.size - (i + 1), by omega, rfl, hlt, p'⟩, fun x H' y => ?_⟩
    obtain ⟨e, c, hc, rfl⟩ := y
    subst e
    exact hs i c σ _ hc p
  · have e : i = z.cps.size := by omega
    subst e
    exact .inl ⟨Nat.le_refl _, hd σ H p⟩
/-! ### what is written for a row -/
def stp (S : Scr) (o : Option (Nat × Wd)) (g : Nat) : Option (Nat × Wd) := o.bind fun x => ((S.tab.getD x.1 []).getD g none).bind fun t => ((S.words.getD x.1 []).getD g none).map fun wd => (t, x.2 ++ wd)
def along (S : Scr) (l : Wd) : Option (Nat × Wd) := l.foldl (stp S) (some (0, S.first))
def wrote (S : Scr) (l : Wd) : Option Wd := (along S l).bind fun x => (S.lasts.getD x.1 none).map (x.2 ++ ·)
theorem along_take {S : Scr} {l : Wd} {i g : Nat} (h : l[i]? = some g) : along S (l.take (i + 1)) = stp S (along S (l.take i)) g := by
  unfold along
  rw [List.take_add_one, h, List.foldl_append]
  rfl
theorem foldl_none (S : Scr) : ∀ l : Wd, l.foldl (stp S) none = none
  | [] => rfl
  | _ :: l => foldl_none S l
theorem along_none {S : Scr} {l : Wd} {i : Nat} (h : along S (l.take i) = none) : wrote S l = none := by
  have e : along S l = none := by
    have : l = l.take i ++ l.drop i := (List.take_append_drop i l).symm
    rw [this]
    unfold along at h ⊢
    rw [List.foldl_append, h]
    exact foldl_none S _
  unfold wrote
  rw [e]
  rfl
theorem getD_some {α : Type} {l : List α} {i : Nat} {d x : α} (h : l[i]? = some x) : l.getD i d = x := by
  rw [List.getD_eq_getElem?_getD, h]
  rfl
structure Ent (S : Scr) (s g : Nat) (row : List (Option Nat)) (r : List (Option Wd)) (o : Option Nat) (ow : Option Wd) : Prop where
  hrow : S.tab[s]? = some row
  hr1 : S.words[s]? = some r
  ho : row[g]? = some o
  how : r[g]? = some ow
  same : ow.isSome = o.isSome
  lt : ∀ t, o = some t → t < S.tab.length
  good : ∀ l, ow = some l → GoodW l
theorem ent_at {n : Nat} {S : Scr} (gs : GoodS n S) {s g : Nat} (hs : s < S.tab.length) (hg : g < n) : ∃ row r o ow, Ent S s g row r o ow := by
  have hs2 : s < S.words.length := by rw [gs.wlen]; exact hs
  have e1 : S.tab[s]? = some S.tab[s] := List.getElem?_eq_getElem hs
  have e2 : S.words[s]? = some S.words[s] := List.getElem?_eq_getElem hs2
  have sh := gs.row e2 e1
  obtain ⟨hl, hlt⟩ := gs.gt.rows S.tab[s] (List.getElem_mem hs)
  have hl2 : S.words[s].length = S.tab[s].length := by simpa using congrArg List.length sh
  have h1 : g < S.tab[s].length := by omega
  have h2 : g < S.words[s].length := by omega
  have e3 : (S.tab[s])[g]? = some (S.tab[s])[g] := List.getElem?_eq_getElem h1
  have e4 : (S.words[s])[g]? = some (S.words[s])[g] := List.getElem?_eq_getElem h2
  refine ⟨_, _, _, _, e1, e2, e3, e4, ?_, fun t ht => hlt t (by rw [← ht]; exact List.getElem_mem h1), fun l hl => gs.wgood _ (List.getElem_mem hs2) l (by rw [← hl]; exact List.getElem_mem h2)⟩
  have := congrArg (fun l => l[g]?) sh
  simp only [List.getElem?_map, e3, e4] at this
  exact Option.some.inj this
theorem ent_none {S : Scr} {s g : Nat} {row : List (Option Nat)} {r : List (Option Wd)} {ow : Option Wd} (e : Ent S s g row r none ow) (acc : Wd) : stp S (some (s, acc)) g = none := by
  show ((S.tab.getD s []).getD g none).bind _ = none
  rw [getD_some e.hrow, getD_some e.ho]
  rfl
theorem ent_some {S : Scr} {s g t : Nat} {row : List (Option Nat)} {r : List (Option Wd)} {wd : Wd} (e : Ent S s g row r (some t) (some wd)) (acc : Wd) : stp S (some (s, acc)) g = some (t, acc ++ wd) := by
  show (((S.tab.getD s []).getD g none).bind fun t => ((S.words.getD s []).getD g none).map fun wd => (t, acc ++ wd)) = _
  rw [getD_some e.hrow, getD_some e.ho, getD_some e.hr1, getD_some e.how]
  rfl
theorem words_at {H : Hp} {v : V} {t : Tw} {s g : Nat} {r : List (Option Wd)} {ow : Option Wd} (h : Dp K H v (dWords t)) (h1 : t[s]? = some r) (h2 : r[g]? = some ow) :
    ∃ a xs b ys, v = .ref a ∧ SqT K H a xs ∧ xs[s]? = some (.ref b) ∧ SqT K H b ys ∧ ys[g]? = some (vW ow) := by
  obtain ⟨a, xs, rfl, hx, hd⟩ := dp_tup h
  obtain ⟨x, e1, hx1⟩ := dps_get (i := s) (d := dOuts r) hd (by rw [List.getElem?_map, h1]; rfl)
  obtain ⟨b, ys, rfl, hy, hyd⟩ := dp_tup hx1
  obtain rfl := dps_W hyd
  exact ⟨a, xs, b, _, rfl, hx, e1, hy, by rw [List.getElem?_map, h2]; rfl⟩
theorem tab_at {H : Hp} {v : V} {t : Tab} {s g : Nat} {r : List (Option Nat)} {ow : Option Nat} (h : Dp K H v (dTab t)) (h1 : t[s]? = some r) (h2 : r[g]? = some ow) :
    ∃ a xs b ys, v = .ref a ∧ SqT K H a xs ∧ xs[s]? = some (.ref b) ∧ SqT K H b ys ∧ ys[g]? = some (vO ow) := by
  obtain ⟨a, xs, rfl, hx, hd⟩ := dp_tup h
  obtain ⟨x, e1, hx1⟩ := dps_get (i := s) (d := dRow r) hd (by rw [List.getElem?_map, h1]; rfl)
  obtain ⟨b, ys, rfl, hy, hyd⟩ := dp_tup hx1
  obtain rfl := dps_opts hyd
  exact ⟨a, xs, b, _, rfl, hx, e1, hy, by rw [List.getElem?_map, h2]; rfl⟩
theorem lasts_at {H : Hp} {v : V} {r : List (Option Wd)} {s : Nat} {ow : Option Wd} (h : Dp K H v (dOuts r)) (h1 : r[s]? = some ow) : ∃ a xs, v = .ref a ∧ SqT K H a xs ∧ xs[s]? = some (vW ow) := by
  obtain ⟨a, xs, rfl, hx, hd⟩ := dp_tup h
  obtain rfl := dps_W hd
  exact ⟨a, _, rfl, hx, by rw [List.getElem?_map, h1]; rfl⟩
theorem last_of {n : Nat} {S : Scr} (gs : GoodS n S) {s : Nat} (hs : s < S.tab.length) : ∃ ow, S.lasts[s]? = some ow ∧ ow.isSome = decide (s ∈ S.ends) ∧ ∀ l, ow = some l → GoodW l := by
  have hl : s < S.lasts.length := by rw [gs.llen]; exact hs
  refine ⟨S.lasts[s], List.getElem?_eq_getElem hl, ?_, fun l e => gs.lst.good l (by rw [← e]; exact List.getElem_mem hl)⟩
  have := congrArg (fun l => l[s]?) gs.lst.shape
  unfold eflags at this
  simp only [List.getElem?_map, List.getElem?_eq_getElem hl, List.getElem?_range hs] at this
  exact Option.some.inj this
theorem sum_rows : ∀ ws : List Wd, (∀ x ∈ ws, x.length ≤ 4) → ((ws.map rowS).map (·.length)).sum ≤ 4 * ws.length
  | [], _ => Nat.le_refl _
  | x :: ws, h => by
    have ih := sum_rows ws fun y hy => h y (List.mem_cons_of_mem _ hy)
    have hx := h x (List.mem_cons_self ..)
    rw [List.map_cons, List.map_cons, List.sum_cons, List.length_cons, rowS_len]
    omega
theorem flat_len : ∀ ws : List Wd, (∀ x ∈ ws, x.length ≤ 4) → ws.flatten.length ≤ 4 * ws.length
  | [], _ => Nat.le_refl _
  | x :: ws, h => by
    have ih := flat_len ws fun y hy => h y (List.mem_cons_of_mem _ hy)
    have hx := h x (List.mem_cons_self ..)
    rw [List.flatten_cons, List.length_append, List.length_cons]
    omega
def spWritten (K : PySem.W.Frag) (A : Ad) : Sp := fun vs H Q _ => ∃ (p m n : Nat) (S : Scr) (l : Wd), vs = [.ref p, .str (rowS l)] ∧ WrAt K A H p m n S ∧ GoodS m S ∧ l.length ≤ 200 ∧ (∀ g ∈ l, g < m) ∧ ∀ H', Same H H' → Q (vW (wrote S l)) H'
theorem ok_written (T : Txt K mg A) (U : Funs K A fd) : FnOk P w K mg base CX0 7 A.written fd.written p_written (spWritten K A) := by
  have b_Writer_lasts := U.b_Writer_lasts
  have G_Writer_lasts := ok_Writer_lasts (P := P) (w := w) (base := base) T U
  have b_Reader_arrows := U.b_Reader_arrows
  have G_Reader_arrows := ok_Reader_arrows (P := P) (w := w) (base := base) T U
  have b_Writer_reader := U.b_Writer_reader
  have G_Writer_reader := ok_Writer_reader (P := P) (w := w) (base := base) T U
  have b_Writer_words := U.b_Writer_words
  have G_Writer_words := ok_Writer_words (P := P) (w := w) (base := base) T U
  have b_Writer_start := U.b_Writer_start
  have G_Writer_start := ok_Writer_start (P := P) (w := w) (base := base) T U
  have b_check_row := U.b_check_row
  have G_check_row := ok_check_row (P := P) (w := w) (base := base) T U
  have b_Reader_signs := U.b_Reader_signs
  have G_Reader_signs := ok_Reader_signs (P := P) (w := w) (base := base) T U
  have b_check_writer := U.b_check_writer
  have G_check_writer := ok_check_writer (P := P) (w := w) (base := base) T U
  refine U.F_written.ok sc_written (fun vs H Q E h => ?_) (fun cdv A0 outer s H vs Q E hr h => ?_)
  · obtain ⟨p, m, n, S, l, rfl, _⟩ := h
    rfl
  · have hu := hu_of hr
    obtain ⟨p, m, n, S, l, rfl, W, gs, hl, hlt, k⟩ := h
    refine ⟨_, (pss_cons (ps_expr (pe_call G_check_writer (hr.mono (by decide)) (by rfl) T.m_check_writer T.k_check_writer b_check_writer .nil pass0 (pa_cons (pv 0) pa_nil)))
       (pss_cons (ps_expr (pe_call G_check_row (hr.mono (by decide)) (by rfl) T.m_check_row T.k_check_row b_check_row .nil pass0 (pa_cons (pe_prop (pe_prop (pv 0) T.cl_Writer T.p_Writer_reader G_Writer_reader (hr.mono (by decide)) b_Writer_reader .nil pass0 rfl) T.cl T.p_Reader_signs G_Reader_signs (hr.mono (by decide)) b_Reader_signs .nil pass0 rfl) (pa_cons (pv 1) pa_nil))))
       (pss_cons (ps_set (i := 2) sc_written.nd rfl (Or.inl rfl) pe_int)
       (pss_cons (ps_set (i := 3) sc_written.nd rfl (Or.inl rfl) (pe_lst (pa_cons (pe_prop (pv 0) T.cl_Writer T.p_Writer_start G_Writer_start (hr.mono (by decide)) b_Writer_start .nil pass0 rfl) pa_nil)))
       (pss_cons (ps_for PassesOwn.never rfl (pi_str (pv 1)) (pg_name (i := 4) sc_written.nd rfl (Or.inl rfl))
       (pss_cons (ps_set (i := 5) sc_written.nd rfl (Or.inl rfl) (w_bm (K := K) PySem.F.plainAttrs_str PySem.F.slot_str_index PySem.F.type_str_index mt_sindex (pe_glob (v := .str "abcdefgh") (by rfl) T.c_ALPHABET.choose_spec ⟨_, rfl⟩) (pa_cons (pv 4) pa_nil)))
       (pss_cons (ps_expr (w_bm (K := K) PySem.F.plainAttrs_list PySem.F.slot_list_append PySem.F.type_list_append mt_append (pv 3) (pa_cons (pe_ix (w_ixT (K := K)) (pe_ix (w_ixT (K := K)) (pe_prop (pv 0) T.cl_Writer T.p_Writer_words G_Writer_words (hr.mono (by decide)) b_Writer_words .nil pass0 rfl) (pv 2) (fun _ _ => rfl)) (pv 5) (fun _ _ => rfl)) pa_nil)))
       (pss_cons (ps_set (i := 2) sc_written.nd rfl (Or.inl rfl) (pe_ix (w_ixT (K := K)) (pe_ix (w_ixT (K := K)) (pe_prop (pe_prop (pv 0) T.cl_Writer T.p_Writer_reader G_Writer_reader (hr.mono (by decide)) b_Writer_reader .nil pass0 rfl) T.cl T.p_Reader_arrows G_Reader_arrows (hr.mono (by decide)) b_Reader_arrows .nil pass0 rfl) (pv 2) (fun _ _ => rfl)) (pv 5) (fun _ _ => rfl)))
       (pss_one (ps_if (pt_cmpR op_isN (pv 2) pe_non (nomark _)) (pss_one (ps_ret pe_non)) pss_nil))))))
       (pss_cons (ps_set (i := 6) sc_written.nd rfl (Or.inl rfl) (pe_ix (w_ixT (K := K)) (pe_prop (pv 0) T.cl_Writer T.p_Writer_lasts G_Writer_lasts (hr.mono (by decide)) b_Writer_lasts .nil pass0 rfl) (pv 2) (fun _ _ => rfl)))
       (pss_one (ps_ret (pe_ifExp (pt_cmpR op_isN (pv 6) pe_non (nomark _)) pe_non (pe_op op_add_str (pe_join pe_str (pv 3)) (pv 6))))))))))), ?_⟩
    have w8 := gs.gt.w8
    have n1 := gs.gt.n1
    refine ⟨_, rfl, p, m, n, S, rfl, W, ?_⟩
    obtain ⟨dx, pr, aw, al, h1, h2, h3, h4⟩ := W.ob
    obtain ⟨dr, ar, er, g1, g2, g3⟩ := h2.ob
    refine ⟨_, rfl, p, dx, _, rfl, h1, p, dx, _, _, rfl, h1, wf_reader _ _ _ _ _, pr, dr, _, rfl, g1, pr, dr, _, _, rfl, g1, flds_signs _ _ _, _, rfl, l, m, rfl, w8, hl, hlt, fun H1 s1 => ?_⟩
    have h1 := s1 _ _ h1
    have g1 := s1 _ _ g1
    have g2 := dp_mono s1 _ _ g2
    have h3 := dp_mono s1 _ _ h3
    have h4 := dp_mono s1 _ _ h4
    refine ⟨_, rfl, p, dx, _, rfl, h1, p, dx, _, _, rfl, h1, wf_start _ _ _ _ _, by show 1 ≤ sizeLine; decide, fun c hc => ?_⟩
    have s0 := same_upd (o := .lst [.str (rowS S.first)]) hc
    refine ⟨_, rfl, rowS l, rfl, ?_⟩
    refine for_str (z := rowS l) (fun i σ H' => ∃ (y4 y5 : Option V) (s : Nat) (acc : Wd) (ws : List Wd), σ = [some (.ref p), some (.str (rowS l)), some (.int (s : Int)), some (.ref c), y4, y5, none] ∧ Same H1 H' ∧ H' c = some (.lst ((ws.map rowS).map V.str)) ∧
      along S (l.take i) = some (s, acc) ∧ s < S.tab.length ∧ ws.flatten = acc ∧ ws.length = i + 1 ∧ ∀ x ∈ ws, x.length ≤ 4) ?_ ?_ ?_
    · exact ⟨none, none, 0, S.first, [S.first], rfl, s0, upd_same, rfl, by omega, by simp, rfl, fun x hx => by rw [List.mem_singleton.mp hx]; exact gs.fst.len⟩
    · rintro i ch σ H2 hi ⟨y4, y5, s, acc, ws, rfl, s2, hc2, hal, hs, hws, hwl, hw4⟩
      obtain ⟨g, hg, rfl⟩ := rowS_at hi
      have gm : g < m := hlt g (List.mem_of_getElem? hg)
      obtain ⟨rest, hrest⟩ := index_at g (by omega)
      obtain ⟨row, r, o, ow, e⟩ := ent_at gs hs gm
      have next := along_take (S := S) hg
      rw [hal] at next
      have il : i < l.length := lt_of_get hg
      obtain ⟨_, xs, b, ys, ew, hx, hxs, hy, hyg⟩ := words_at (dp_mono s2 _ _ h3) e.hr1 e.how
      obtain rfl := V.ref.inj ew
      have h1' := s2 _ _ h1
      refine ⟨rfl, _, rfl, _, _, g, rest, rfl, rfl, hrest, ?_⟩
      refine ⟨_, rfl, .inl ⟨rfl, _, lst_of hc2⟩, _, rfl, p, dx, _, rfl, h1', p, dx, _, _, rfl, h1', wf_words _ _ _ _ _, _, rfl, aw, xs, _, _, rfl, rfl, hx, atI_nat hxs, _, rfl, b, ys, _, _, rfl, rfl, hy, atI_nat hyg, c, _, _, rfl, rfl, hc2, szt (by simp; omega), ?_⟩
      have s3 : Same H1 (upd H2 c (.lst ((ws.map rowS).map V.str ++ [vW ow]))) := same_put s2 hc
      have hc3 : (upd H2 c (.lst ((ws.map rowS).map V.str ++ [vW ow]))) c = some (.lst ((ws.map rowS).map V.str ++ [vW ow])) := upd_same
      generalize upd H2 c (.lst ((ws.map rowS).map V.str ++ [vW ow])) = H3 at s3 hc3
      have h1' := s3 _ _ h1
      have g1' := s3 _ _ g1
      obtain ⟨_, xs, b, ys, ew, hx, hxs, hy, hyg⟩ := tab_at (dp_mono s3 _ _ g2) e.hrow e.ho
      obtain rfl := V.ref.inj ew
      refine ⟨_, rfl, p, dx, _, rfl, h1', p, dx, _, _, rfl, h1', wf_reader _ _ _ _ _, pr, dr, _, rfl, g1', pr, dr, _, _, rfl, g1', flds_arrows _ _ _, _, rfl, ar, xs, _, _, rfl, rfl, hx, atI_nat hxs, _, rfl, b, ys, _, _, rfl, rfl, hy, atI_nat hyg, ?_⟩
      cases o with
      | none =>
        refine ⟨_, rfl, rfl, _, rfl, iteT ?_⟩
        rw [ent_none e] at next
        rw [along_none next] at k
        exact k H3 (s1.trans s3)
      | some t =>
        cases ow with
        | none => exact absurd e.same Bool.false_ne_true
        | some wd =>
          refine ⟨_, rfl, rfl, _, rfl, iteF (g_next ?_)⟩
          rw [ent_some e] at next
          refine ⟨_, _, t, acc ++ wd, ws ++ [wd], rfl, s3, ?_, next, e.lt t rfl, by rw [List.flatten_append, hws]; simp, by rw [List.length_append, hwl]; rfl, fun x hx => ?_⟩
          · rw [hc3, List.map_append, List.map_append]
            rfl
          · rcases List.mem_append.mp hx with h | h
            · exact hw4 x h
            · rw [List.mem_singleton.mp h]
              exact (e.good wd rfl).len
    · rintro σ H2 ⟨y4, y5, s, acc, ws, rfl, s2, hc2, hal, hs, hws, hwl, hw4⟩
      rw [rowS_size, List.take_length] at hal
      rw [rowS_size] at hwl
      obtain ⟨ow, eo, hsome, hgood⟩ := last_of gs hs
      obtain ⟨_, xs, ea, hx, hxs⟩ := lasts_at (dp_mono s2 _ _ h4) eo
      obtain rfl := V.ref.inj ea
      have h1' := s2 _ _ h1
      refine ⟨_, rfl, p, dx, _, rfl, h1', p, dx, _, _, rfl, h1', wf_lasts _ _ _ _ _, _, rfl, al, xs, _, _, rfl, rfl, hx, atI_nat hxs, ?_⟩
      have ek : wrote S l = ow.map (acc ++ ·) := by
        unfold wrote
        rw [hal]
        show (S.lasts.getD s none).map (acc ++ ·) = _
        rw [getD_some eo]
      rw [ek] at k
      cases ow with
      | none =>
        refine ⟨_, rfl, rfl, _, rfl, iteT ?_⟩
        exact k H2 (s1.trans s2)
      | some lw =>
        refine ⟨_, rfl, rfl, _, rfl, iteF ?_⟩
        have hs4 := sum_rows ws hw4
        have hf4 := flat_len ws hw4
        have hlw := (hgood lw rfl).len
        refine ⟨⟨_, rfl⟩, _, rfl, _, c, ws.map rowS, rfl, rfl, .inl (lst_of hc2), ?_, ?_⟩
        · show _ + _ * 0 ≤ 16777216
          omega
        rw [join_rows]
        refine ⟨_, rfl, _, _, rfl, rfl, szl (by rw [rowS_len, rowS_len]; omega), ?_⟩
        rw [rowS_app, hws]
        exact k H2 (s1.trans s2)
end K6


set_option Elab.async false
set_option linter.all false
set_option maxRecDepth 100000
set_option maxHeartbeats 4000000
namespace K6
open PySem PySem.Spec PyProof.Rows L2 Rw
variable {P : Program} {w : World} {K : PySem.W.Frag} {mg : Str → Option Value} {base : Heap} {A : Ad} {fd : Fds}
/-! ### draws -/
structure BarAt (H : Hp) (b : Addr) : Prop where
  ob : ∃ s c f : Int, H b = some (.lst [.int s, .int c, .int f]) ∧ 0 ≤ f
theorem g_viaP {te : TE} {σ : L2.St} {H : Hp} {Q : VK} (Pp : V → Hp → Prop) (h : ∀ Q' : VK, (∀ v H2, Pp v H2 → Q' v H2) → te σ H Q') (rest : ∀ v H2, Pp v H2 → Q v H2) : te σ H Q := h Q rest
theorem g_lst {te : TE} {tr : TA} {σ : L2.St} {H : Hp} {Q : VK} (h : te σ H fun x H1 => tr σ H1 fun xs H2 => (x :: xs).length ≤ sizeLine ∧ ∀ p, H2 p = none → Q (.ref p) (upd H2 p (.lst (x :: xs)))) : tLst (tCons te tr) σ H Q := h
theorem g_cons {te : TE} {tr : TA} {σ : L2.St} {H : Hp} {Q : List V → Hp → Prop} (h : te σ H fun x H1 => tr σ H1 fun xs H2 => Q (x :: xs) H2) : tCons te tr σ H Q := h
theorem g_c {v : V} {σ : L2.St} {H : Hp} {Q : VK} (h : Q v H) : tC v σ H Q := h
theorem fmod_nn (x : Int) {m : Int} (h : 0 < m) : 0 ≤ x.fmod m := by
  rw [Int.fmod_eq_emod_of_nonneg x (by omega)]
  exact Int.emod_nonneg x (by omega)
theorem fmod_lt (x : Int) {m : Int} (h : 0 < m) : x.fmod m < m := by
  rw [Int.fmod_eq_emod_of_nonneg x (by omega)]
  exact Int.emod_lt_of_pos x h
theorem ints_getV {ns : List Int} {t : Nat} (h : t < ns.length) : (ns.map V.int)[t]? = some (.int ns[t]) := by simp [h]
def spFlask (K : PySem.W.Frag) : Sp := fun vs H Q _ => ∃ (a : Addr) (ns : List Int) (t : Nat), vs = [.ref a, .int (t : Int)] ∧ SqL K H a (ns.map V.int) ∧ ns.length ≤ 63 ∧ t ≤ 5 ∧
  ∀ b H', H b = none → Same H H' → BarAt H' b → Q (.ref b) H'
theorem cut_ints {ns : List Int} {k : Int} {x : V} (h : x ∈ cutV (ns.map V.int) none (some k)) : ∃ z : Int, x = .int z := by
  unfold cutV at h
  obtain ⟨z, _, rfl⟩ := List.mem_map.mp (List.mem_of_mem_drop (List.mem_of_mem_take h))
  exact ⟨z, rfl⟩
theorem ok_l_flask (T : Txt K mg A) (U : Funs K A fd) : FnOk P w K mg base CX0 1 A.l_flask fd.l_flask p_l_flask (spFlask K) := by
  refine U.F_l_flask.ok sc_l_flask (fun vs H Q E h => ?_) (fun cdv A0 outer s H vs Q E hr h => ?_)
  · obtain ⟨a, ns, t, rfl, _⟩ := h
    rfl
  · have hu := hu_of hr
    obtain ⟨a, ns, t, rfl, hS, hn, ht, k⟩ := h
    refine ⟨_, (pss_cons (ps_set (i := 2) sc_l_flask.nd rfl (Or.inl rfl) (pe_ifExp (pt_cmpR op_lt (pv 1) (pe_callB (w_len (K := K)) (by rfl) T.b_len (by decide +kernel) (pa_cons (pv 0) pa_nil)) (nomark _)) (pe_callTy call_int1 (by rfl) T.b_int (by decide +kernel) (pa_cons (pe_ix (w_ixL (K := K)) (pv 0) (pv 1) (fun _ _ => rfl)) pa_nil)) (pe_op op_add (pe_op op_mul pe_int (pv 1)) pe_int)))
       (pss_cons (ps_set (i := 3) sc_l_flask.nd rfl (Or.inl rfl) (pe_op op_add pe_int (pe_op op_mul pe_int (pv 1))))
       (pss_cons (ps_for PassesOwn.never rfl (w_piL (K := K) (pe_slice (w_slL (K := K)) (pv 0) po_none (po_some pe_int))) (pg_name (i := 4) sc_l_flask.nd rfl (Or.inl rfl))
       (pss_one (ps_set (i := 3) sc_l_flask.nd rfl (Or.inl rfl) (pe_op op_modN (pe_callTy call_int1 (by rfl) T.b_int (by decide +kernel) (pa_cons (pe_op op_add (pe_op op_mul (pv 3) pe_int) (pe_callTy call_int1 (by rfl) T.b_int (by decide +kernel) (pa_cons (pv 4) pa_nil))) pa_nil)) pe_int))))
       (pss_one (ps_ret (pe_lst (pa_cons (pe_op op_modN (pe_callTy call_int1 (by rfl) T.b_int (by decide +kernel) (pa_cons (pe_op op_add (pv 3) (pe_op op_mul (pv 2) pe_int)) pa_nil)) pe_int) (pa_cons pe_int (pa_cons (pe_ifExp (PW.pt (pw_or (pt_cmpR op_lt (pv 2) pe_int (nomark _)) (pw_or1 (pt_cmpR op_ge (pv 2) (pe_op op_pow pe_int pe_int) (nomark _))))) (pe_callB call_abs (by rfl) T.b_abs (by decide +kernel) (pa_cons (pv 2) pa_nil)) pe_int) pa_nil))))))))), ?_⟩
    refine g_seq (g_asg (g_viaP (fun v H2 => H2 = H ∧ ∃ o : Int, v = .int o) (fun Q' rest => ?_) ?_))
    · refine ⟨_, rfl, _, rfl, _, _, rfl, .inl ⟨_, hS, rfl⟩, _, _, rfl, rfl, _, rfl, ?_⟩
      by_cases c : t < ns.length
      · rw [decide_eq_true (show (t : Int) < ((ns.map V.int).length : Int) by rw [List.length_map]; omega)]
        refine iteT ?_
        refine ⟨_, rfl, _, rfl, a, _, _, _, rfl, rfl, hS, atI_nat (ints_getV c), .inl ⟨_, rfl, rest _ H ⟨rfl, _, rfl⟩⟩⟩
      · rw [decide_eq_false (show ¬ ((t : Int) < ((ns.map V.int).length : Int)) by rw [List.length_map]; omega)]
        refine iteF ?_
        refine ⟨_, rfl, _, _, rfl, rfl, .inl ⟨by decide, by decide⟩, _, _, rfl, rfl, rest _ H ⟨rfl, _, rfl⟩⟩
    · rintro v H2 ⟨rfl, o, rfl⟩
      refine ⟨_, rfl, _, _, rfl, rfl, .inl ⟨by decide, by decide⟩, _, _, rfl, rfl, ?_⟩
      refine ⟨_, rfl, 6, rfl, a, _, rfl, hS, fun p hp => ⟨p, rfl, ⟨_, lst_of upd_same⟩, ?_⟩⟩
      have s3 : Same H2 (upd H2 p (.lst (cutV (ns.map V.int) none (some 6)))) := same_upd hp
      have h3 : (upd H2 p (.lst (cutV (ns.map V.int) none (some 6)))) p = some (.lst (cutV (ns.map V.int) none (some 6))) := upd_same
      generalize upd H2 p (.lst (cutV (ns.map V.int) none (some 6))) = H3 at s3 h3
      refine for_list (xs := cutV (ns.map V.int) none (some 6)) (fun i σ H' => ∃ (st : Int) (y4 : Option V), σ = [some (.ref a), some (.int (t : Int)), some (.int o), some (.int st), y4] ∧ H' = H3) ?_ ?_ ?_ ?_
      · exact ⟨_, none, rfl, rfl⟩
      · rintro i σ H' _ ⟨_, _, _, rfl⟩
        exact lst_of h3
      · rintro i x σ H' hi ⟨st, y4, rfl, rfl⟩
        obtain ⟨z, rfl⟩ : ∃ z : Int, x = .int z := cut_ints (List.mem_of_getElem? hi)
        refine ⟨_, rfl, _, _, rfl, rfl, .inr ⟨by decide, by decide⟩, _, rfl, .inl ⟨_, rfl, _, _, rfl, rfl, .inl ⟨_, rfl, _, _, rfl, rfl, (by show (2147482811 : Int) ≠ 0; decide), ?_⟩⟩⟩
        exact ⟨_, _, rfl, rfl⟩
      · rintro σ H' ⟨st, y4, rfl, rfl⟩
        dsimp only
        refine g_ret (g_lst ?_)
        refine ⟨_, rfl, _, rfl, _, _, rfl, rfl, .inr ⟨by decide, by decide⟩, _, _, rfl, rfl, .inl ⟨_, rfl, _, _, rfl, rfl, (by show (2147482811 : Int) ≠ 0; decide), ?_⟩⟩
        refine g_c (g_cons (g_viaP (fun v H2' => H2' = H' ∧ ∃ f : Int, 0 ≤ f ∧ v = .int f) (fun Q' rest => ?_) ?_))
        · refine ⟨_, rfl, _, _, rfl, rfl, _, rfl, ?_⟩
          have absR : Q' (.int (if o < 0 then -o else o)) H' := rest _ H' ⟨rfl, _, by split <;> omega, rfl⟩
          by_cases c : o < 0
          · rw [decide_eq_true c]
            refine iteT (iteT ?_)
            exact ⟨_, rfl, _, rfl, absR⟩
          · rw [decide_eq_false c]
            refine iteF ?_
            refine ⟨_, rfl, _, _, rfl, rfl, ⟨by decide, by decide, by decide⟩, _, _, rfl, rfl, _, rfl, ?_⟩
            by_cases c2 : (10 : Int) ^ (18 : Int).toNat ≤ o
            · rw [decide_eq_true c2]
              refine iteT ?_
              exact ⟨_, rfl, _, rfl, absR⟩
            · rw [decide_eq_false c2]
              exact iteF (rest _ _ ⟨rfl, 0, by omega, rfl⟩)
        · rintro v H4 ⟨rfl, f, hf, rfl⟩
          refine ⟨by show 3 ≤ sizeLine; decide, fun b hb => ?_⟩
          exact k b _ (Same.free s3 hb) (s3.trans (same_upd hb)) ⟨_, 0, f, upd_same, hf⟩
def spPour : Sp := fun vs H Q _ => ∃ (b : Addr) (top : Nat), vs = [.ref b, .int (top : Int)] ∧ BarAt H b ∧ 1 ≤ top ∧ top ≤ 1000000 ∧ ∀ (r : Nat) H', r < top → Keep b H H' → BarAt H' b → Q (.int (r : Int)) H'
theorem nat_of {z : Int} (h : 0 ≤ z) : ∃ r : Nat, z = (r : Int) := ⟨z.toNat, by omega⟩
theorem ok_l_pour (T : Txt K mg A) (U : Funs K A fd) : FnOk P w K mg base CX0 1 A.l_pour fd.l_pour p_l_pour (spPour) := by
  refine U.F_l_pour.ok sc_l_pour (fun vs H Q E h => ?_) (fun cdv A0 outer s H vs Q E hr h => ?_)
  · obtain ⟨b, top, rfl, _⟩ := h
    rfl
  · have hu := hu_of hr
    obtain ⟨b, top, rfl, B, h1, h2, k⟩ := h
    refine ⟨_, (pss_cons (ps_asg (pe_op op_add (pe_ix (w_ixL (K := K)) (pv 0) pe_int (fun _ _ => rfl)) pe_int) (pg_sub (pv 0) pe_int set_list))
       (pss_cons (ps_if (pt_cmpR op_gt (pe_ix (w_ixL (K := K)) (pv 0) pe_int (fun _ _ => rfl)) pe_int (nomark _)) (pss_cons (ps_asg (pe_callB call_divmod (by rfl) T.b_divmod (by decide +kernel) (pa_cons (pe_callTy call_int1 (by rfl) T.b_int (by decide +kernel) (pa_cons (pe_ix (w_ixL (K := K)) (pv 0) pe_int (fun _ _ => rfl)) pa_nil)) (pa_cons (pv 1) pa_nil))) (w_tup (K := K) (n := 2) rfl (pgs_cons (pg_sub (pv 0) pe_int set_list) (pgs_cons (pg_name (i := 2) sc_l_pour.nd rfl (Or.inl rfl)) pgs_nil))))
       (pss_one (ps_ret (pv 2)))) pss_nil)
       (pss_cons (ps_set (i := 3) sc_l_pour.nd rfl (Or.inl rfl) (pe_callTy call_int1 (by rfl) T.b_int (by decide +kernel) (pa_cons (pe_ix (w_ixL (K := K)) (pv 0) pe_int (fun _ _ => rfl)) pa_nil)))
       (pss_cons (ps_set (i := 4) sc_l_pour.nd rfl (Or.inl rfl) (pe_op op_add (pe_op op_modN (pe_callTy call_int1 (by rfl) T.b_int (by decide +kernel) (pa_cons (pv 3) pa_nil)) pe_int) pe_int))
       (pss_cons (ps_asg (pe_op op_modN (pe_callTy call_int1 (by rfl) T.b_int (by decide +kernel) (pa_cons (pe_op op_add (pe_op op_add (pe_op op_mul (pv 3) (pv 4)) (pe_op op_mul pe_int (pe_ix (w_ixL (K := K)) (pv 0) pe_int (fun _ _ => rfl)))) pe_int) pa_nil)) pe_int) (pg_sub (pv 0) pe_int set_list))
       (pss_one (ps_ret (pe_op op_modN (pe_callTy call_int1 (by rfl) T.b_int (by decide +kernel) (pa_cons (pe_op op_fdivN (pe_ix (w_ixL (K := K)) (pv 0) pe_int (fun _ _ => rfl)) pe_int) pa_nil)) (pv 1))))))))), ?_⟩
    obtain ⟨s0, c, f, hb, hf⟩ := B.ob
    have fin : ∀ (x : Int) (H2 : Hp), Keep b H H2 → BarAt H2 b → Q (.int (x.fmod (top : Int))) H2 := by
      intro x H2 kp B2
      have hr0 := fmod_nn x (m := (top : Int)) (by omega)
      have hr1 := fmod_lt x (m := (top : Int)) (by omega)
      obtain ⟨r, er⟩ := nat_of hr0
      rw [er] at hr1 ⊢
      exact k r H2 (by omega) kp B2
    have fin2 : ∀ (H2 : Hp), Keep b H H2 → BarAt H2 b → Q (.int (f % (top : Int))) H2 := by
      intro H2 kp B2
      have hr0 : 0 ≤ f % (top : Int) := Int.emod_nonneg _ (by omega)
      have hr1 : f % (top : Int) < top := Int.emod_lt_of_pos _ (by omega)
      obtain ⟨r, er⟩ := nat_of hr0
      rw [er] at hr1 ⊢
      exact k r H2 (by omega) kp B2
    refine ⟨_, rfl, b, _, _, _, rfl, rfl, lst_of hb, rfl, _, _, rfl, rfl, _, rfl, b, _, _, 1, rfl, rfl, hb, rfl, ?_⟩
    have b1 : (upd H b (.lst [.int s0, .int (c + 1), .int f])) b = some (.lst [.int s0, .int (c + 1), .int f]) := upd_same
    have kp1 : Keep b H (upd H b (.lst [.int s0, .int (c + 1), .int f])) := keep_upd
    dsimp only
    refine g_seq ?_
    refine ⟨_, rfl, b, _, _, _, rfl, rfl, lst_of b1, rfl, _, _, rfl, rfl, _, rfl, ?_⟩
    by_cases cf : 0 < f
    · rw [decide_eq_true cf]
      refine iteT ?_
      refine ⟨_, rfl, b, _, _, _, rfl, rfl, lst_of b1, rfl, .inl ⟨_, rfl, _, rfl, _, _, rfl, ⟨by omega, by omega⟩, fun T hT => ?_⟩⟩
      have ne : b ≠ T := ne_of_none b1 hT
      refine ⟨T, _, rfl, tup_of upd_same, rfl, _, _, rfl, _, rfl, b, _, _, 2, rfl, rfl, (by rw [upd_ne ne]; exact b1), rfl, _, _, rfl, rfl, ?_⟩
      have hq : 0 ≤ f / (top : Int) := Int.ediv_nonneg (by omega) (by omega)
      exact ⟨_, rfl, fin2 _ (kp1.trans (Keep.trans (Keep.of (same_upd hT)) keep_upd)) ⟨s0, _, f / (top : Int), upd_same, hq⟩⟩
    · rw [decide_eq_false cf]
      refine iteF (g_next ?_)
      refine ⟨_, rfl, b, _, _, _, rfl, rfl, lst_of b1, rfl, .inl ⟨_, rfl, ?_⟩⟩
      refine ⟨_, rfl, .inl ⟨_, rfl, _, _, rfl, rfl, (by show (17011 : Int) ≠ 0; decide), _, _, rfl, rfl, ?_⟩⟩
      have m0 := fmod_nn s0 (m := 17011) (by decide)
      have m1 := fmod_lt s0 (m := 17011) (by decide)
      refine ⟨_, rfl, _, rfl, _, _, rfl, rfl, .inr ⟨by omega, by omega⟩, _, rfl, b, _, _, _, rfl, rfl, lst_of b1, rfl, _, _, rfl, rfl, .inl ⟨by decide, by decide⟩, _, _, rfl, rfl, _, _, rfl, rfl, .inl ⟨_, rfl, _, _, rfl, rfl, (by show (2147482811 : Int) ≠ 0; decide), ?_⟩⟩
      refine ⟨_, rfl, b, _, _, 0, rfl, rfl, b1, rfl, ?_⟩
      refine ⟨_, rfl, b, _, _, _, rfl, rfl, lst_of upd_same, rfl, _, _, rfl, rfl, ⟨by decide, by decide⟩, .inl ⟨_, rfl, _, rfl, _, _, rfl, rfl, (by show (top : Int) ≠ 0; omega), ?_⟩⟩
      exact fin _ _ (kp1.trans keep_upd) ⟨_, c + 1, f, upd_same, hf⟩
/-- one of a list, or of a text -/
def rOne (K : PySem.W.Frag) (b : Addr) (v : V) (H : Hp) (Q : VK) : Prop :=
  (∃ (a : Addr) (xs : List V), v = .ref a ∧ SqL K (del b H) a xs ∧ 0 < xs.length ∧ xs.length ≤ 1000 ∧ ∀ x H', x ∈ xs → Keep b H H' → BarAt H' b → Q x H') ∨
  ∃ l : List Nat, v = .str (rowS l) ∧ 0 < l.length ∧ l.length ≤ 8 ∧ ∀ g H', g ∈ l → Keep b H H' → BarAt H' b → Q (.str (sgn g)) H'
def spOne (K : PySem.W.Frag) : Sp := fun vs H Q _ => ∃ (b : Addr) (v : V), vs = [.ref b, v] ∧ BarAt H b ∧ rOne K b v H Q
theorem row_sign {l : List Nat} {i : Nat} (h : i < l.length) : (rowS l).cps.toList[i]? = some (97 + l[i]) := by
  unfold rowS
  simp [h]
theorem ok_l_pick (T : Txt K mg A) (U : Funs K A fd) : FnOk P w K mg base CX0 4 A.l_pick fd.l_pick p_l_pick (spOne K) := by
  have b_l_pour := U.b_l_pour
  have G_l_pour := ok_l_pour (P := P) (w := w) (base := base) T U
  refine U.F_l_pick.ok sc_l_pick (fun vs H Q E h => ?_) (fun cdv A0 outer s H vs Q E hr h => ?_)
  · obtain ⟨b, v, rfl, _⟩ := h
    rfl
  · have hu := hu_of hr
    obtain ⟨b, v, rfl, B, h⟩ := h
    refine ⟨_, (pss_one (ps_ret (pe_ix (w_ixA (K := K)) (pv 1) (pe_call G_l_pour (hr.mono (by decide)) (by rfl) T.m_l_pour T.k_l_pour b_l_pour .nil pass0 (pa_cons (pv 0) (pa_cons (pe_callB (w_len (K := K)) (by rfl) T.b_len (by decide +kernel) (pa_cons (pv 1) pa_nil)) pa_nil))) (fun _ _ => rfl)))), ?_⟩
    rcases h with ⟨a, xs, rfl, hx, h1, h2, k⟩ | ⟨l, rfl, h1, h2, k⟩
    · refine ⟨_, rfl, _, rfl, _, rfl, _, _, rfl, .inl ⟨_, sqL_mono (del_same b) hx, rfl⟩, b, xs.length, rfl, B, by omega, by omega, fun r H1 hrr kp B1 => ?_⟩
      have e : xs[r]? = some xs[r] := List.getElem?_eq_getElem hrr
      exact .inl ⟨a, xs, _, _, rfl, rfl, sqL_mono (del_same b) (sqL_mono kp hx), atI_nat e, k _ H1 (List.getElem_mem hrr) kp B1⟩
    · refine ⟨_, rfl, _, rfl, _, rfl, _, _, rfl, ⟨szl (by rw [rowS_len]; omega), rfl⟩, b, l.length, by rw [rowS_len] <;> rfl, B, h1, by omega, fun r H1 hrr kp B1 => ?_⟩
      exact .inr (.inr ⟨_, _, _, rfl, rfl, szl (by rw [rowS_len]; omega), atI_nat (row_sign hrr), k l[r] H1 (List.getElem_mem hrr) kp B1⟩)
/-- a new object beside the flask, changed -/
theorem keep_put {b p : Addr} {o : HO} {H H1 : Hp} (k : Keep b H H1) (h : H p = none) : Keep b H (upd H1 p o) := by
  by_cases e : p = b
  · subst e
    exact k.trans keep_upd
  · intro x u hx
    have hxb : x ≠ b := by
      intro z
      rw [z, del_none] at hx
      cases hx
    have z := k x u hx
    rw [del_ne hxb] at hx z ⊢
    rw [upd_ne (ne_of_none hx h)]
    exact z
theorem bar_ne {H : Hp} {b p : Addr} (B : BarAt H b) (h : H p = none) : p ≠ b := by
  obtain ⟨f, s, c, hb, _⟩ := B.ob
  intro z
  rw [z, hb] at h
  cases h
theorem bar_upd {H : Hp} {b p : Addr} {o : HO} (B : BarAt H b) (h : p ≠ b) : BarAt (upd H p o) b := by
  obtain ⟨f, s, c, hb, h1⟩ := B.ob
  exact ⟨f, s, c, by rw [upd_ne (fun z => h z.symm)]; exact hb, h1⟩
theorem bar_same {H H' : Hp} {b : Addr} (B : BarAt H b) (s : Same H H') : BarAt H' b := by
  obtain ⟨f, s0, c, hb, h1⟩ := B.ob
  exact ⟨f, s0, c, s _ _ hb, h1⟩
end K6


set_option Elab.async false
set_option linter.all false
set_option maxRecDepth 100000
set_option maxHeartbeats 4000000
namespace K6
open PySem PySem.Spec PyProof.Rows L2 Rw
variable {P : Program} {w : World} {K : PySem.W.Frag} {mg : Str → Option Value} {base : Heap} {A : Ad} {fd : Fds}
theorem del_upd {b p : Addr} {o : HO} {H : Hp} (h : p ≠ b) : del b (upd H p o) = upd (del b H) p o := by
  funext x
  show (if x = b then none else if x = p then some o else H x) = (if x = p then some o else if x = b then none else H x)
  by_cases e : x = b
  · subst e
    rw [if_pos rfl, if_neg (fun z => h z.symm), if_pos rfl]
  · rw [if_neg e, if_neg e]
theorem aab_row : V.str ("aab" : Str) = V.str (rowS [0, 0, 1]) := by decide +kernel
theorem mem_aab {g : Nat} (h : g ∈ [0, 0, 1]) : g < 2 := by
  simp at h
  omega
theorem sum_sgn : ∀ l : List Nat, ((l.map sgn).map (·.length)).sum = l.length
  | [] => rfl
  | a :: l => by
    rw [List.map_cons, List.map_cons, List.sum_cons, sum_sgn l, List.length_cons]
    show 1 + _ = _
    omega
def spWord : Sp := fun vs H Q _ => ∃ (b : Addr) (most : Nat), vs = [.ref b, .int (most : Int)] ∧ BarAt H b ∧ most ≤ 4 ∧ ∀ l H', GoodW l → Keep b H H' → BarAt H' b → Q (.str (rowS l)) H'
theorem ok_l_word (T : Txt K mg A) (U : Funs K A fd) : FnOk P w K mg base CX0 7 A.l_word fd.l_word p_l_word (spWord) := by
  have b_l_pour := U.b_l_pour
  have G_l_pour := ok_l_pour (P := P) (w := w) (base := base) T U
  have b_l_pick := U.b_l_pick
  have G_l_pick := ok_l_pick (P := P) (w := w) (base := base) T U
  refine U.F_l_word.ok sc_l_word (fun vs H Q E h => ?_) (fun cdv A0 outer s H vs Q E hr h => ?_)
  · obtain ⟨b, most, rfl, _⟩ := h
    rfl
  · have hu := hu_of hr
    obtain ⟨b, most, rfl, B, h4, k⟩ := h
    refine ⟨_, (pss_one (ps_ret (pe_join pe_str (pe_lc (own := [("_law_turn", 2)]) (g := gName 2) (tt := tYes) (by rfl) sc_l_word.nd (pi_range1 (by rfl) T.b_range (pa_cons (pe_call G_l_pour (hr.mono (by decide)) (by rfl) T.m_l_pour T.k_l_pour b_l_pour .nil pass0 (pa_cons (pv 0) (pa_cons (pe_op op_add (pv 1) pe_int) pa_nil))) pa_nil)) (blkOk_by (own := [("_law_turn", 2)]) (by rfl)) (fun _ _ _ _ _ => (pg_name (i := 2) sc_l_word.nd rfl (Or.inl rfl))) (fun _ _ _ _ _ => pts_nil) (fun _ _ _ _ _ => (pe_call G_l_pick (hr.mono (by decide)) (by rfl) T.m_l_pick T.k_l_pick b_l_pick .nil pass0 (pa_cons (pv 0) (pa_cons pe_str pa_nil)))))))), ?_⟩
    refine ⟨⟨_, rfl⟩, _, rfl, _, rfl, _, _, rfl, rfl, b, most + 1, rfl, B, by omega, by omega, fun r H1 hrr k1 B1 => ⟨(r : Int), rfl, by omega, by omega, fun D hD => ?_⟩⟩
    rw [Int.toNat_natCast]
    have neD : D ≠ b := bar_ne B1 hD
    refine lc_range (lo := 0) (n := r) (fun j H' => Keep b H1 H' ∧ BarAt H' b ∧ ∃ l : List Nat, H' D = some (.lst ((l.map sgn).map V.str)) ∧ l.length = j ∧ ∀ g ∈ l, g < 2) ?_ ?_ ?_
    · exact ⟨Keep.of (same_upd hD), bar_upd B1 neD, [], upd_same, rfl, fun g h => by simp at h⟩
    · rintro j H6 hj ⟨k6, B6, l, hl6, hlen, hlt⟩
      refine ⟨rfl, yes_go ?_⟩
      refine ⟨_, rfl, b, _, rfl, B6, .inr ⟨[0, 0, 1], aab_row, by decide, by decide, fun g H7 hg k7 B7 => ?_⟩⟩
      have hl7 := k7.get neD hl6
      refine ⟨_, hl7, szt (by simp; omega), keep_put (k6.trans k7) hD, bar_upd B7 neD, l ++ [g], ?_, by rw [List.length_append, hlen]; rfl, fun x hx => ?_⟩
      · rw [upd_same, List.map_append, List.map_append]
        rfl
      · rcases List.mem_append.mp hx with h | h
        · exact hlt x h
        · rw [List.mem_singleton.mp h]
          exact mem_aab hg
    · rintro H6 ⟨k6, B6, l, hl6, hlen, hlt⟩
      refine ⟨_, D, l.map sgn, rfl, rfl, .inl (lst_of hl6), ?_, ?_⟩
      · rw [sum_sgn]
        show _ + _ * 0 ≤ _
        omega
      rw [join_signs]
      exact k l H6 ⟨by omega, hlt⟩ (k1.trans k6) B6
/-! ### a drawn reader -/
def dThing (tab : Tab) (ends : List Nat) : PyData := .tuple [dTab tab, dNats ends]
theorem asc_of {ends : List Nat} (h : ends.Pairwise (· < ·)) : Asc (ends.map Int.ofNat) := by
  intro i x y hx hy
  rw [List.getElem?_map] at hx hy
  cases e1 : ends[i]? with
  | none => rw [e1] at hx; cases hx
  | some p =>
    cases e2 : ends[i + 1]? with
    | none => rw [e2] at hy; cases hy
    | some q =>
      rw [e1] at hx
      rw [e2] at hy
      obtain rfl := Option.some.inj hx
      obtain rfl := Option.some.inj hy
      have l1 := lt_of_get e1
      have l2 := lt_of_get e2
      have := List.pairwise_iff_getElem.mp h i (i + 1) l1 l2 (by omega)
      rw [List.getElem?_eq_getElem l1] at e1
      rw [List.getElem?_eq_getElem l2] at e2
      obtain rfl := Option.some.inj e1
      obtain rfl := Option.some.inj e2
      exact Int.ofNat_lt.mpr this
theorem pair_len {n : Nat} : ∀ {l : List Nat}, l.Pairwise (· < ·) → (∀ x ∈ l, x < n) → l.length ≤ n := by
  intro l hp hlt
  have hn : l.Nodup := hp.imp fun h => Nat.ne_of_lt h
  have hs : l ⊆ List.range n := fun x hx => List.mem_range.mpr (hlt x hx)
  have := (List.Nodup.length_le_of_subset hn hs)
  rw [List.length_range] at this
  exact this
theorem nats_dps {H : Hp} (ns : List Nat) : DpAll K H (ns.map fun (k : Nat) => V.int (k : Int)) (ns.map fun (k : Nat) => PyData.int (k : Int)) := by
  have z := ints_dps (K := K) (H := H) (ns.map Int.ofNat)
  rw [List.map_map, List.map_map] at z
  exact z
def spThing (K : PySem.W.Frag) : Sp := fun vs H Q _ => ∃ (b : Addr) (m most : Nat), vs = [.ref b, .int (m : Int), .int (most : Int)] ∧ BarAt H b ∧ 1 ≤ m ∧ m ≤ 8 ∧ 1 ≤ most ∧ most ≤ 100 ∧
  ∀ p tab ends H', Dp K (del b H') (.ref p) (dThing tab ends) → GoodT m tab → GoodE tab.length ends → tab.length ≤ most → Keep b H H' → BarAt H' b → Q (.ref p) H'
theorem ok_l_thing (T : Txt K mg A) (U : Funs K A fd) : FnOk P w K mg base CX0 4 A.l_thing fd.l_thing p_l_thing (spThing K) := by
  have b_l_pour := U.b_l_pour
  have G_l_pour := ok_l_pour (P := P) (w := w) (base := base) T U
  refine U.F_l_thing.ok sc_l_thing (fun vs H Q E h => ?_) (fun cdv A0 outer s H vs Q E hr h => ?_)
  · obtain ⟨b, m, most, rfl, _⟩ := h
    rfl
  · have hu := hu_of hr
    obtain ⟨b, m, most, rfl, B, m1, m8, o1, o2, k⟩ := h
    refine ⟨_, (pss_cons (ps_asg (pe_tup (pa_cons (pe_op op_add pe_int (pe_call G_l_pour (hr.mono (by decide)) (by rfl) T.m_l_pour T.k_l_pour b_l_pour .nil pass0 (pa_cons (pv 0) (pa_cons (pv 2) pa_nil)))) (pa_cons (pe_lst pa_nil) pa_nil))) (w_tup (K := K) (n := 2) rfl (pgs_cons (pg_name (i := 3) sc_l_thing.nd rfl (Or.inr rfl)) (pgs_cons (pg_name (i := 4) sc_l_thing.nd rfl (Or.inl rfl)) pgs_nil))))
       (pss_cons (ps_for PassesOwn.never rfl (pi_range1 (by rfl) T.b_range (pa_cons (pv 3) pa_nil)) (pg_name (i := 5) sc_l_thing.nd rfl (Or.inl rfl))
       (pss_cons (ps_setLc (i := 6) (own := [("_law_spot", 7)]) (g := gName 7) (tt := tYes) (by rfl) sc_l_thing.nd rfl rfl (sw_true rfl rfl rfl (by decide +kernel)) (pi_range1 (by rfl) T.b_range (pa_cons (pv 1) pa_nil)) (blkOk_by (own := [("_law_spot", 7)]) (by rfl)) (fun _ _ _ _ _ => (pg_name (i := 7) sc_l_thing.nd rfl (Or.inl rfl))) (fun _ _ _ _ _ => pts_nil) (fun _ _ _ _ _ => (pe_ifExp (pt_cmpR op_gt (pe_call G_l_pour (hr.mono (by decide)) (by rfl) T.m_l_pour T.k_l_pour b_l_pour .nil pass0 (pa_cons (pv 0) (pa_cons pe_int pa_nil))) pe_int (nomark _)) (pe_call G_l_pour (hr.mono (by decide)) (by rfl) T.m_l_pour T.k_l_pour b_l_pour .nil pass0 (pa_cons (pv 0) (pa_cons (pv 3) pa_nil))) pe_non)))
       (pss_one (ps_expr (w_bm (K := K) PySem.F.plainAttrs_list PySem.F.slot_list_append PySem.F.type_list_append mt_append (pv 4) (pa_cons (pe_callTy (w_tuple (K := K)) (by rfl) T.b_tuple (by decide +kernel) (pa_cons (pv 6) pa_nil)) pa_nil))))))
       (pss_one (ps_ret (pe_tup (pa_cons (pe_callTy (w_tuple (K := K)) (by rfl) T.b_tuple (by decide +kernel) (pa_cons (pv 4) pa_nil)) (pa_cons (pe_callTy (w_tuple (K := K)) (by rfl) T.b_tuple (by decide +kernel) (pa_cons (pe_lc (own := [("_law_at", 8)]) (g := gName 8) (by rfl) sc_l_thing.nd (pi_range1 (by rfl) T.b_range (pa_cons (pv 3) pa_nil)) (blkOk_by (own := [("_law_at", 8)]) (by rfl)) (fun _ _ _ _ _ => (pg_name (i := 8) sc_l_thing.nd rfl (Or.inl rfl))) (fun _ _ _ _ _ => (pts_one (pt_cmpR op_eq (pe_call G_l_pour (hr.mono (by decide)) (by rfl) T.m_l_pour T.k_l_pour b_l_pour .nil pass0 (pa_cons (pv 0) (pa_cons pe_int pa_nil))) pe_int (nomark _)))) (fun _ _ _ _ _ => (pv 8))) pa_nil)) pa_nil))))))), ?_⟩
    refine ⟨_, rfl, _, rfl, b, most, rfl, B, o1, by omega, fun r0 H1 hr0 k1 B1 => ⟨_, _, rfl, rfl, Nat.zero_le _, fun c hc => ?_⟩⟩
    have el : (1 : Int) + (r0 : Int) = ((r0 + 1 : Nat) : Int) := by omega
    have nec : c ≠ b := bar_ne B1 hc
    refine ⟨by show 2 ≤ sizeLine; decide, fun T hT => ⟨T, _, rfl, tup_of upd_same, rfl, _, _, rfl, _, _, rfl, rfl, ?_⟩⟩
    have neT : c ≠ T := ne_of_none upd_same hT
    have neTb : T ≠ b := bar_ne (bar_upd B1 nec) hT
    have k2 : Keep b H1 (upd (upd H1 c (.lst [])) T (.tup [.int ((1 : Int) + (r0 : Int)), .ref c])) := (Keep.of (same_upd hc)).trans (Keep.of (same_upd hT))
    have B2 : BarAt (upd (upd H1 c (.lst [])) T (.tup [.int ((1 : Int) + (r0 : Int)), .ref c])) b := bar_upd (bar_upd B1 nec) neTb
    have hc2 : (upd (upd H1 c (.lst [])) T (.tup [.int ((1 : Int) + (r0 : Int)), .ref c])) c = some (.lst []) := by rw [upd_ne neT]; exact upd_same
    dsimp only
    rw [el] at k2 B2 hc2 ⊢
    generalize hn : r0 + 1 = n at k2 B2 hc2
    generalize upd (upd H1 c (.lst [])) T (.tup [.int (n : Int), .ref c]) = H2 at k2 B2 hc2
    refine ⟨_, rfl, (n : Int), rfl, by omega, by omega, ?_⟩
    rw [Int.toNat_natCast]
    refine for_range (lo := 0) (n := n) (fun i σ H' => ∃ y5 y6, σ = [some (.ref b), some (.int (m : Int)), some (.int (most : Int)), some (.int (n : Int)), some (.ref c), y5, y6, none, none] ∧ Keep b H1 H' ∧ BarAt H' b ∧
      ∃ (acc : List V) (tab : Tab), H' c = some (.lst acc) ∧ DpAll K (del c (del b H')) acc (tab.map dRow) ∧ tab.length = i ∧ ∀ row ∈ tab, row.length = m ∧ ∀ g, some g ∈ row → g < n) ?_ ?_ ?_
    · exact ⟨none, none, rfl, k2, B2, [], [], hc2, .nil, rfl, fun row h => by simp at h⟩
    · rintro i σ H3 hi ⟨y5, y6, rfl, k3, B3, acc, tab, hacc, dacc, hlen, hrow⟩
      refine ⟨_, rfl, (m : Int), rfl, by omega, by omega, fun D hD => ?_⟩
      rw [Int.toNat_natCast]
      have neD : D ≠ b := bar_ne B3 hD
      refine lc_range (lo := 0) (n := m) (fun j H' => Keep b H3 H' ∧ BarAt H' b ∧ ∃ row : List (Option Nat), H' D = some (.lst (row.map vO)) ∧ row.length = j ∧ ∀ g, some g ∈ row → g < n) ?_ ?_ ?_
      · exact ⟨Keep.of (same_upd hD), bar_upd B3 neD, [], upd_same, rfl, fun g h => by simp at h⟩
      · rintro j H4 hj ⟨k4, B4, row, hrw, hrl, hrg⟩
        refine ⟨rfl, yes_go ?_⟩
        refine ⟨_, rfl, b, 5, rfl, B4, by decide, by decide, fun r1 H5 _ k5 B5 => ⟨_, _, rfl, rfl, _, rfl, ?_⟩⟩
        have push : ∀ (o : Option Nat) (H6 : Hp), (∀ g, o = some g → g < n) → Keep b H5 H6 → BarAt H6 b → ∃ acc, H6 D = some (.lst acc) ∧ acc.length < sizeLine ∧ (Keep b H3 (upd H6 D (.lst (acc ++ [vO o]))) ∧ BarAt (upd H6 D (.lst (acc ++ [vO o]))) b ∧
            ∃ row : List (Option Nat), (upd H6 D (.lst (acc ++ [vO o]))) D = some (.lst (row.map vO)) ∧ row.length = j + 1 ∧ ∀ g, some g ∈ row → g < n) := by
          intro o H6 ho k6 B6
          have h6 := (k5.trans k6).get neD hrw
          refine ⟨_, h6, szt (by rw [List.length_map]; omega), keep_put (k4.trans (k5.trans k6)) hD, bar_upd B6 neD, row ++ [o], ?_, by rw [List.length_append, hrl]; rfl, fun g hg => ?_⟩
          · rw [upd_same, List.map_append]
            rfl
          · rcases List.mem_append.mp hg with h | h
            · exact hrg g h
            · exact ho g (List.mem_singleton.mp h).symm
        by_cases cz : (0 : Int) < (r1 : Int)
        · rw [decide_eq_true cz]
          refine iteT ?_
          refine ⟨_, rfl, _, rfl, b, n, rfl, B5, by omega, by omega, fun r2 H6 hr2 k6 B6 => ?_⟩
          exact push (some r2) H6 (fun g e => by rw [← Option.some.inj e]; exact hr2) k6 B6
        · rw [decide_eq_false cz]
          refine iteF ?_
          exact push none H5 (fun g e => by cases e) (Keep.refl _ _) B5
      · rintro H4 ⟨k4, B4, row, hrw, hrl, hrg⟩
        have hc4 : H4 c = some (.lst acc) := k4.get nec hacc
        refine ⟨_, rfl, .inl ⟨rfl, _, lst_of hc4⟩, _, rfl, D, _, rfl, .inl ⟨lst_of hrw, fun l hl => ?_⟩⟩
        have nlc : c ≠ l := ne_of_none hc4 hl
        have nlb : l ≠ b := bar_ne B4 hl
        have lacc : acc.length ≤ 200 := by
          have := dps_len dacc
          rw [List.length_map] at this
          omega
        refine ⟨c, acc, _, rfl, rfl, by rw [upd_ne nlc]; exact hc4, szt (by omega), ?_⟩
        have kA : Keep b H3 (upd H4 l (.tup (row.map vO))) := k4.trans (Keep.of (same_upd hl))
        refine ⟨_, _, rfl, keep_put (k3.trans kA) hc, bar_upd (bar_upd B4 nlb) nec, acc ++ [.ref l], tab ++ [row], upd_same, ?_, by rw [List.length_append, hlen]; rfl, fun rw' h => ?_⟩
        · have m1 : Same (del c (del b H3)) (del c (del b (upd H4 l (.tup (row.map vO))))) := del_mono kA
          have m2 : Same (del c (del b (upd H4 l (.tup (row.map vO))))) (del c (del b (upd (upd H4 l (.tup (row.map vO))) c (.lst (acc ++ [.ref l]))))) := by
            rw [del_upd nec]
            exact keep_upd
          rw [List.map_append]
          refine dps_mono m2 _ _ (dps_snoc (dps_mono m1 _ _ dacc) (.tup (tup_of ?_) (opts_dps row)))
          rw [del_ne (fun z => nlc z.symm), del_ne nlb]
          exact upd_same
        · rcases List.mem_append.mp h with h | h
          · exact hrow rw' h
          · rw [List.mem_singleton.mp h]
            exact ⟨hrl, hrg⟩
    · rintro σ H3 ⟨y5, y6, rfl, k3, B3, acc, tab, hacc, dacc, hlen, hrow⟩
      refine ⟨_, rfl, c, _, rfl, .inl ⟨lst_of hacc, fun l hl => ?_⟩⟩
      have nlb : l ≠ b := bar_ne B3 hl
      have sl : Same (del b H3) (del b (upd H3 l (.tup acc))) := Keep.of (same_upd hl)
      have dl : Dp K (del b (upd H3 l (.tup acc))) (.ref l) (dTab tab) := .tup (tup_of (by rw [del_ne nlb]; exact upd_same)) (dps_mono ((del_same c).trans sl) _ _ dacc)
      have kL : Keep b H1 (upd H3 l (.tup acc)) := k3.trans sl
      have BL := bar_upd (o := .tup acc) B3 nlb
      generalize upd H3 l (.tup acc) = H4 at dl kL BL
      refine ⟨_, rfl, (n : Int), rfl, by omega, by omega, fun D hD => ?_⟩
      rw [Int.toNat_natCast]
      have neD : D ≠ b := bar_ne BL hD
      refine lc_range (lo := 0) (n := n) (fun j H' => Keep b H4 H' ∧ BarAt H' b ∧ ∃ ends : List Nat, H' D = some (.lst (ends.map fun (k : Nat) => V.int (k : Int))) ∧ ends.Pairwise (· < ·) ∧ ∀ g ∈ ends, g < j) ?_ ?_ ?_
      · exact ⟨Keep.of (same_upd hD), bar_upd BL neD, [], upd_same, .nil, fun g h => by simp at h⟩
      · rintro j H5 hj ⟨k5, B5, ends, hen, hpw, hlt⟩
        refine ⟨rfl, ?_⟩
        refine ⟨_, rfl, b, 2, rfl, B5, by decide, by decide, fun r1 H6 _ k6 B6 => ⟨rfl, _, rfl, ?_⟩⟩
        have h6 := k6.get neD hen
        by_cases cz : decide (V.int (r1 : Int) = V.int 0) = true
        · rw [cz]
          refine iteT ?_
          refine ⟨_, rfl, _, h6, szt (by rw [List.length_map]; have := pair_len hpw hlt; omega), keep_put (k5.trans k6) hD, bar_upd B6 neD, ends ++ [j], ?_, ?_, fun g hg => ?_⟩
          · rw [upd_same, List.map_append, show (0 : Int) + (j : Int) = (j : Int) by omega]
            rfl
          · exact List.pairwise_append.mpr ⟨hpw, List.pairwise_singleton _ _, fun x hx y hy => by rw [List.mem_singleton.mp hy]; exact hlt x hx⟩
          · rcases List.mem_append.mp hg with h | h
            · exact Nat.lt_succ_of_lt (hlt g h)
            · rw [List.mem_singleton.mp h]
              exact Nat.lt_succ_self _
        · rw [Bool.eq_false_iff.mpr cz]
          refine iteF ?_
          exact ⟨k5.trans k6, B6, ends, h6, hpw, fun g hg => Nat.lt_succ_of_lt (hlt g hg)⟩
      · rintro H5 ⟨k5, B5, ends, hen, hpw, hlt⟩
        refine ⟨D, _, rfl, .inl ⟨lst_of hen, fun q hq => ?_⟩⟩
        have nqb : q ≠ b := bar_ne B5 hq
        have sq : Same (del b H5) (del b (upd H5 q (.tup (ends.map fun (k : Nat) => V.int (k : Int))))) := Keep.of (same_upd hq)
        have dq : Dp K (del b (upd H5 q (.tup (ends.map fun (k : Nat) => V.int (k : Int))))) (.ref q) (dNats ends) := .tup (tup_of (by rw [del_ne nqb]; exact upd_same)) (nats_dps ends)
        have Bq := bar_upd (o := .tup (ends.map fun (k : Nat) => V.int (k : Int))) B5 nqb
        have kq := (k5.trans sq : Keep b H4 (upd H5 q (.tup (ends.map fun (k : Nat) => V.int (k : Int)))))
        generalize upd H5 q (.tup (ends.map fun (k : Nat) => V.int (k : Int))) = H6 at dq Bq kq
        refine ⟨by show 2 ≤ sizeLine; decide, fun p hp => ?_⟩
        have npb : p ≠ b := bar_ne Bq hp
        have sp : Same (del b H6) (del b (upd H6 p (.tup [.ref l, .ref q]))) := Keep.of (same_upd hp)
        refine k p tab ends _ (.tup (tup_of (by rw [del_ne npb]; exact upd_same)) (.cons (dp_mono (Same.trans kq sp) _ _ dl) (.cons (dp_mono sp _ _ dq) .nil))) ⟨m8, by omega, by omega, fun row h => ?_⟩ ⟨asc_of hpw, fun g hg => ?_, ?_⟩ (by omega) (((k1.trans kL).trans kq).trans sp) (bar_upd Bq npb)
        · rw [hlen]
          exact hrow row h
        · rw [hlen]
          exact hlt g hg
        · have := pair_len hpw hlt
          omega
end K6


set_option Elab.async false
set_option linter.all false
set_option maxRecDepth 100000
set_option maxHeartbeats 4000000
namespace K6
open PySem PySem.Spec PyProof.Rows L2 Rw
variable {P : Program} {w : World} {K : PySem.W.Frag} {mg : Str → Option Value} {base : Heap} {A : Ad} {fd : Fds}
def dScr (S : Scr) : PyData := .tuple [dThing S.tab S.ends, .str (rowS S.first), dWords S.words, dOuts S.lasts]
theorem dp_two {H : Hp} {v : V} {d e : PyData} (h : Dp K H v (.tuple [d, e])) : ∃ a x y, v = .ref a ∧ SqT K H a [x, y] ∧ Dp K H x d ∧ Dp K H y e := by
  obtain ⟨a, xs, rfl, hx, hd⟩ := dp_tup h
  cases hd with
  | cons h1 hd =>
    cases hd with
    | cons h2 hd =>
      cases hd
      exact ⟨a, _, _, rfl, hx, h1, h2⟩
theorem isS_map (t : List (Option Wd)) (o : Option Wd) : (t ++ [o]).map Option.isSome = t.map Option.isSome ++ [o.isSome] := by simp
def spScribe (K : PySem.W.Frag) : Sp := fun vs H Q _ => ∃ (b : Addr) (m : Nat), vs = [.ref b, .int (m : Int), .int 3, .int 4] ∧ BarAt H b ∧ 1 ≤ m ∧ m ≤ 8 ∧
  ∀ p S H', Dp K (del b H') (.ref p) (dScr S) → GoodS m S → S.tab.length ≤ 3 → Keep b H H' → BarAt H' b → Q (.ref p) H'
theorem ok_l_scribe (T : Txt K mg A) (U : Funs K A fd) : FnOk P w K mg base CX0 10 A.l_scribe fd.l_scribe p_l_scribe (spScribe K) := by
  have b_l_word := U.b_l_word
  have G_l_word := ok_l_word (P := P) (w := w) (base := base) T U
  have b_l_thing := U.b_l_thing
  have G_l_thing := ok_l_thing (P := P) (w := w) (base := base) T U
  refine U.F_l_scribe.ok sc_l_scribe (fun vs H Q E h => ?_) (fun cdv A0 outer s H vs Q E hr h => ?_)
  · obtain ⟨b, m, rfl, _⟩ := h
    rfl
  · have hu := hu_of hr
    obtain ⟨b, m, rfl, B, m1, m8, k⟩ := h
    refine ⟨_, (pss_cons (ps_set (i := 4) sc_l_scribe.nd rfl (Or.inr rfl) (pe_call G_l_thing (hr.mono (by decide)) (by rfl) T.m_l_thing T.k_l_thing b_l_thing .nil pass0 (pa_cons (pv 0) (pa_cons (pv 1) (pa_cons (pv 2) pa_nil)))))
       (pss_cons (ps_set (i := 5) sc_l_scribe.nd rfl (Or.inl rfl) (pe_lst pa_nil))
       (pss_cons (ps_for PassesOwn.never rfl (w_piT (K := K) (pe_ix (w_ixT (K := K)) (pv 4) pe_int (fun _ _ => rfl))) (pg_name (i := 6) sc_l_scribe.nd rfl (Or.inl rfl))
       (pss_one (ps_expr (w_bm (K := K) PySem.F.plainAttrs_list PySem.F.slot_list_append PySem.F.type_list_append mt_append (pv 5) (pa_cons (pe_callTy (w_tuple (K := K)) (by rfl) T.b_tuple (by decide +kernel) (pa_cons (pe_lc (own := [("_law_goal", 8)]) (g := gName 8) (tt := tYes) (by rfl) sc_l_scribe.nd (w_piT (K := K) (pv 6)) (blkOk_by (own := [("_law_goal", 8)]) (by rfl)) (fun _ _ _ _ _ => (pg_name (i := 8) sc_l_scribe.nd rfl (Or.inl rfl))) (fun _ _ _ _ _ => pts_nil) (fun _ _ _ _ _ => (pe_ifExp (pt_cmpR op_isN (pv 8) pe_non (nomark _)) pe_non (pe_call G_l_word (hr.mono (by decide)) (by rfl) T.m_l_word T.k_l_word b_l_word .nil pass0 (pa_cons (pv 0) (pa_cons (pv 3) pa_nil)))))) pa_nil)) pa_nil)))))
       (pss_cons (ps_setLc (i := 7) (own := [("_law_at", 9)]) (g := gName 9) (tt := tYes) (by rfl) sc_l_scribe.nd rfl rfl (sw_true rfl rfl rfl (by decide +kernel)) (pi_range1 (by rfl) T.b_range (pa_cons (pe_callB (w_len (K := K)) (by rfl) T.b_len (by decide +kernel) (pa_cons (pe_ix (w_ixT (K := K)) (pv 4) pe_int (fun _ _ => rfl)) pa_nil)) pa_nil)) (blkOk_by (own := [("_law_at", 9)]) (by rfl)) (fun _ _ _ _ _ => (pg_name (i := 9) sc_l_scribe.nd rfl (Or.inl rfl))) (fun _ _ _ _ _ => pts_nil) (fun _ _ _ _ _ => (pe_ifExp (pt_cmpR (w_in (K := K)) (pv 9) (pe_ix (w_ixT (K := K)) (pv 4) pe_int (fun _ _ => rfl)) (by rfl)) (pe_call G_l_word (hr.mono (by decide)) (by rfl) T.m_l_word T.k_l_word b_l_word .nil pass0 (pa_cons (pv 0) (pa_cons (pv 3) pa_nil))) pe_non)))
       (pss_one (ps_ret (pe_tup (pa_cons (pv 4) (pa_cons (pe_call G_l_word (hr.mono (by decide)) (by rfl) T.m_l_word T.k_l_word b_l_word .nil pass0 (pa_cons (pv 0) (pa_cons (pv 3) pa_nil))) (pa_cons (pe_callTy (w_tuple (K := K)) (by rfl) T.b_tuple (by decide +kernel) (pa_cons (pv 5) pa_nil)) (pa_cons (pe_callTy (w_tuple (K := K)) (by rfl) T.b_tuple (by decide +kernel) (pa_cons (pv 7) pa_nil)) pa_nil))))))))))), ?_⟩
    refine ⟨_, rfl, _, rfl, _, rfl, b, m, 3, rfl, B, m1, m8, by decide, by decide, fun p tab ends H1 dp gt ge l3 k1 B1 => ?_⟩
    obtain ⟨_, x0, x1, e1, hp, d0, d1⟩ := dp_two dp
    obtain rfl := V.ref.inj e1
    obtain ⟨xt, txs, rfl, htx, htd⟩ := dp_tup d0
    obtain ⟨xe, exs, rfl, hex, hed⟩ := dp_tup d1
    obtain rfl : exs = ends.map fun (k : Nat) => V.int (k : Int) := by
      rw [nats_int] at hed
      rw [dps_ints hed, List.map_map]
      rfl
    have htl : txs.length = tab.length := by rw [dps_len htd, List.length_map]
    refine ⟨Nat.zero_le _, fun c hc => ?_⟩
    have nec : c ≠ b := bar_ne B1 hc
    have k2 : Keep b H1 (upd H1 c (.lst [])) := Keep.of (same_upd hc)
    have B2 : BarAt (upd H1 c (.lst [])) b := bar_upd B1 nec
    refine ⟨_, rfl, p, _, _, _, rfl, rfl, sqT_mono ((del_same b).trans (same_upd hc)) hp, rfl, xt, rfl, ⟨_, sqT_mono ((del_same b).trans (same_upd hc)) htx⟩, ?_⟩
    refine for_tup (xs := txs) (fun i σ H' => ∃ y6, σ = [some (.ref b), some (.int (m : Int)), some (.int 3), some (.int 4), some (.ref p), some (.ref c), y6, none, none, none] ∧ Keep b H1 H' ∧ BarAt H' b ∧
      ∃ (acc : List V) (t : Tw), H' c = some (.lst acc) ∧ DpAll K (del c (del b H')) acc (t.map dOuts) ∧ t.map (·.map Option.isSome) = (tab.take i).map (·.map Option.isSome) ∧ ∀ r ∈ t, ∀ l, some l ∈ r → GoodW l) ?_ ?_ ?_ ?_
    · exact ⟨none, rfl, k2, B2, [], [], upd_same, .nil, rfl, fun r h => by simp at h⟩
    · rintro i σ H3 _ ⟨y6, rfl, k3, _⟩
      exact sqT_mono (Same.trans k3 (del_same b)) htx
    · rintro i x σ H3 hi ⟨y6, rfl, k3, B3, acc, t, hacc, dacc, hsh, hgd⟩
      obtain ⟨row, er, hr1⟩ := row_in htd hi
      have hrow := gt.rows row (List.mem_of_getElem? er)
      obtain ⟨xr, rxs, rfl, hrx, hrd⟩ := dp_tup hr1
      obtain rfl := dps_opts hrd
      have il : i < tab.length := lt_of_get er
      have tl : t.length = i := by
        have := congrArg List.length hsh
        simp only [List.length_map, List.length_take] at this
        omega
      have hr3 : SqT K (del b H3) xr (row.map vO) := sqT_mono k3 hrx
      refine ⟨_, rfl, .inl ⟨rfl, _, lst_of hacc⟩, ?_⟩
      refine ⟨_, rfl, xr, rfl, ⟨_, sqT_mono (del_same b) hr3⟩, fun D hD => ?_⟩
      have neD : D ≠ b := bar_ne B3 hD
      refine lc_tup (xs := row.map vO) (fun j H' => Keep b H3 H' ∧ BarAt H' b ∧ ∃ r : List (Option Wd), H' D = some (.lst (r.map vW)) ∧ r.map Option.isSome = (row.take j).map Option.isSome ∧ ∀ l, some l ∈ r → GoodW l) ?_ ?_ ?_ ?_
      · exact ⟨Keep.of (same_upd hD), bar_upd B3 neD, [], upd_same, rfl, fun l h => by simp at h⟩
      · rintro j H4 _ ⟨k4, _⟩
        exact sqT_mono (Same.trans k4 (del_same b)) hr3
      · rintro j x H4 hj ⟨k4, B4, r, hr4, hrs, hrg⟩
        rw [List.getElem?_map] at hj
        cases eo : row[j]? with
        | none => rw [eo] at hj; cases hj
        | some o =>
          rw [eo] at hj
          obtain rfl := Option.some.inj hj
          have jl : j < row.length := lt_of_get eo
          have rl : r.length = j := by
            have := congrArg List.length hrs
            simp only [List.length_map, List.length_take] at this
            omega
          refine ⟨rfl, yes_go ?_⟩
          have push : ∀ (ow : Option Wd) (H6 : Hp), ow.isSome = o.isSome → (∀ l, ow = some l → GoodW l) → Keep b H4 H6 → BarAt H6 b → ∃ acc, H6 D = some (.lst acc) ∧ acc.length < sizeLine ∧ (Keep b H3 (upd H6 D (.lst (acc ++ [vW ow]))) ∧ BarAt (upd H6 D (.lst (acc ++ [vW ow]))) b ∧
              ∃ r : List (Option Wd), (upd H6 D (.lst (acc ++ [vW ow]))) D = some (.lst (r.map vW)) ∧ r.map Option.isSome = (row.take (j + 1)).map Option.isSome ∧ ∀ l, some l ∈ r → GoodW l) := by
            intro ow H6 ho hog k6 B6
            have h6 := k6.get neD hr4
            refine ⟨_, h6, szt (by rw [List.length_map]; omega), keep_put (k4.trans k6) hD, bar_upd B6 neD, r ++ [ow], ?_, ?_, fun g hg => ?_⟩
            · rw [upd_same, List.map_append]
              rfl
            · rw [isS_map, hrs, ho, List.take_add_one, eo, List.map_append]
              rfl
            · rcases List.mem_append.mp hg with h | h
              · exact hrg g h
              · exact hog g (List.mem_singleton.mp h).symm
          cases o with
          | none =>
            refine ⟨_, rfl, rfl, _, rfl, iteT ?_⟩
            exact push none H4 rfl (fun l e => by cases e) (Keep.refl _ _) B4
          | some g =>
            refine ⟨_, rfl, rfl, _, rfl, iteF ?_⟩
            refine ⟨_, rfl, _, rfl, b, 4, rfl, B4, by decide, fun l H5 gw k5 B5 => ?_⟩
            exact push (some l) H5 rfl (fun l' e => by rw [← Option.some.inj e]; exact gw) k5 B5
      · rintro H4 ⟨k4, B4, r, hr4, hrs, hrg⟩
        rw [List.length_map, List.take_length] at hrs
        have hc4 : H4 c = some (.lst acc) := k4.get nec hacc
        refine ⟨D, _, rfl, .inl ⟨lst_of hr4, fun l hl => ?_⟩⟩
        have nlc : c ≠ l := ne_of_none hc4 hl
        have nlb : l ≠ b := bar_ne B4 hl
        have lacc : acc.length ≤ 200 := by
          have := dps_len dacc
          rw [List.length_map] at this
          omega
        refine ⟨c, acc, _, rfl, rfl, by rw [upd_ne nlc]; exact hc4, szt (by omega), ?_⟩
        have kA : Keep b H3 (upd H4 l (.tup (r.map vW))) := k4.trans (Keep.of (same_upd hl))
        refine ⟨_, rfl, keep_put (k3.trans kA) hc, bar_upd (bar_upd B4 nlb) nec, acc ++ [.ref l], t ++ [r], upd_same, ?_, ?_, fun rw' h => ?_⟩
        · have m1 : Same (del c (del b H3)) (del c (del b (upd H4 l (.tup (r.map vW))))) := del_mono kA
          have m2 : Same (del c (del b (upd H4 l (.tup (r.map vW))))) (del c (del b (upd (upd H4 l (.tup (r.map vW))) c (.lst (acc ++ [.ref l]))))) := by
            rw [del_upd nec]
            exact keep_upd
          rw [List.map_append]
          refine dps_mono m2 _ _ (dps_snoc (dps_mono m1 _ _ dacc) (.tup (tup_of ?_) (W_dps r)))
          rw [del_ne (fun z => nlc z.symm), del_ne nlb]
          exact upd_same
        · rw [List.map_append, hsh, List.take_add_one, er, List.map_append]
          show _ ++ [r.map Option.isSome] = _ ++ [row.map Option.isSome]
          rw [hrs]
        · rcases List.mem_append.mp h with h | h
          · exact hgd rw' h
          · rw [List.mem_singleton.mp h]
            exact hrg
    · rintro σ H3 ⟨y6, rfl, k3, B3, acc, t, hacc, dacc, hsh, hgd⟩
      rw [htl, List.take_length] at hsh
      have hp3 : SqT K (del b H3) p [.ref xt, .ref xe] := sqT_mono k3 hp
      have ht3 : SqT K (del b H3) xt txs := sqT_mono k3 htx
      have tlen : t.length = tab.length := by simpa using congrArg List.length hsh
      refine ⟨_, rfl, p, _, _, _, rfl, rfl, sqT_mono (del_same b) hp3, rfl, _, tab.length, rfl, .inr ⟨_, sqT_mono (del_same b) ht3, htl.symm⟩, ?_⟩
      refine ⟨(tab.length : Int), rfl, by omega, by omega, fun D hD => ?_⟩
      rw [Int.toNat_natCast]
      have neD : D ≠ b := bar_ne B3 hD
      have neDc : c ≠ D := ne_of_none hacc hD
      refine lc_range (lo := 0) (n := tab.length) (fun j H' => Keep b H3 H' ∧ BarAt H' b ∧ ∃ r : List (Option Wd), H' D = some (.lst (r.map vW)) ∧ r.map Option.isSome = (List.range j).map (fun k => decide (k ∈ ends)) ∧ ∀ l, some l ∈ r → GoodW l) ?_ ?_ ?_
      · exact ⟨Keep.of (same_upd hD), bar_upd B3 neD, [], upd_same, rfl, fun l h => by simp at h⟩
      · rintro j H4 hj ⟨k4, B4, r, hr4, hrs, hrg⟩
        have rl : r.length = j := by
          have := congrArg List.length hrs
          simp only [List.length_map, List.length_range] at this
          omega
        rw [show (0 : Int) + (j : Int) = (j : Int) by omega]
        refine ⟨rfl, yes_go ?_⟩
        have push : ∀ (ow : Option Wd) (H6 : Hp), ow.isSome = decide (j ∈ ends) → (∀ l, ow = some l → GoodW l) → Keep b H4 H6 → BarAt H6 b → ∃ acc, H6 D = some (.lst acc) ∧ acc.length < sizeLine ∧ (Keep b H3 (upd H6 D (.lst (acc ++ [vW ow]))) ∧ BarAt (upd H6 D (.lst (acc ++ [vW ow]))) b ∧
            ∃ r : List (Option Wd), (upd H6 D (.lst (acc ++ [vW ow]))) D = some (.lst (r.map vW)) ∧ r.map Option.isSome = (List.range (j + 1)).map (fun k => decide (k ∈ ends)) ∧ ∀ l, some l ∈ r → GoodW l) := by
          intro ow H6 ho hog k6 B6
          have h6 := k6.get neD hr4
          refine ⟨_, h6, szt (by rw [List.length_map]; omega), keep_put (k4.trans k6) hD, bar_upd B6 neD, r ++ [ow], ?_, ?_, fun g hg => ?_⟩
          · rw [upd_same, List.map_append]
            rfl
          · rw [isS_map, hrs, ho, List.range_succ, List.map_append]
            rfl
          · rcases List.mem_append.mp hg with h | h
            · exact hrg g h
            · exact hog g (List.mem_singleton.mp h).symm
        have hp4 : SqT K H4 p [.ref xt, .ref xe] := sqT_mono (Same.trans k4 (del_same b)) hp3
        have he4 : SqT K H4 xe (ends.map fun (k : Nat) => V.int (k : Int)) := sqT_mono (Same.trans (Same.trans k3 k4) (del_same b)) hex
        refine ⟨_, rfl, _, rfl, p, _, _, _, rfl, rfl, hp4, rfl, xe, _, rfl, .inr he4, rfl, flat_ints _, ?_⟩
        rw [if_neg Bool.false_ne_true, show inV (V.int (j : Int)) (ends.map fun (k : Nat) => V.int (k : Int)) = decide (j ∈ ends) from inV_nats ends (some j)]
        refine ⟨_, rfl, ?_⟩
        by_cases cj : j ∈ ends
        · rw [decide_eq_true cj]
          refine iteT ?_
          refine ⟨_, rfl, _, rfl, b, 4, rfl, B4, by decide, fun l H5 gw k5 B5 => ?_⟩
          exact push (some l) H5 (by rw [decide_eq_true cj]; rfl) (fun l' e => by rw [← Option.some.inj e]; exact gw) k5 B5
        · rw [decide_eq_false cj]
          refine iteF ?_
          exact push none H4 (by rw [decide_eq_false cj]; rfl) (fun l e => by cases e) (Keep.refl _ _) B4
      · rintro H4 ⟨k4, B4, r, hr4, hrs, hrg⟩
        refine ⟨_, rfl, _, rfl, _, rfl, b, 4, rfl, B4, by decide, fun fst H5 gw k5 B5 => ?_⟩
        have hc5 : H5 c = some (.lst acc) := k5.get nec (k4.get nec hacc)
        have hD5 : H5 D = some (.lst (r.map vW)) := k5.get neD hr4
        have dacc5 : DpAll K (del c (del b H5)) acc (t.map dOuts) := dps_mono (del_mono (Same.trans k4 k5)) _ _ dacc
        refine ⟨_, rfl, c, _, rfl, .inl ⟨lst_of hc5, fun q1 hq1 => ?_⟩⟩
        have n1b : q1 ≠ b := bar_ne B5 hq1
        have s1 := same_upd (o := .tup acc) hq1
        have B6 := bar_upd (o := .tup acc) B5 n1b
        have d6 : Dp K (del b (upd H5 q1 (.tup acc))) (.ref q1) (dWords t) := .tup (tup_of (by rw [del_ne n1b]; exact upd_same)) (dps_mono ((del_same c).trans (del_mono s1)) _ _ dacc5)
        have hD6 := s1 _ _ hD5
        have k6 : Keep b H3 (upd H5 q1 (.tup acc)) := (k4.trans k5).trans (Keep.of s1)
        generalize upd H5 q1 (.tup acc) = H6 at B6 d6 hD6 k6
        refine ⟨_, rfl, D, _, rfl, .inl ⟨lst_of hD6, fun q2 hq2 => ?_⟩⟩
        have n2b : q2 ≠ b := bar_ne B6 hq2
        have s2 := same_upd (o := .tup (r.map vW)) hq2
        have B7 := bar_upd (o := .tup (r.map vW)) B6 n2b
        have d7 : Dp K (del b (upd H6 q2 (.tup (r.map vW)))) (.ref q2) (dOuts r) := .tup (tup_of (by rw [del_ne n2b]; exact upd_same)) (W_dps r)
        have d6' := dp_mono (del_mono (b := b) s2) _ _ d6
        have k7 : Keep b H3 (upd H6 q2 (.tup (r.map vW))) := k6.trans (Keep.of s2)
        generalize upd H6 q2 (.tup (r.map vW)) = H7 at B7 d7 d6' k7
        refine ⟨by show 4 ≤ sizeLine; decide, fun q hq => ?_⟩
        have nqb : q ≠ b := bar_ne B7 hq
        have s3 := same_upd (o := .tup [.ref p, .str (rowS fst), .ref q1, .ref q2]) hq
        have m3 := del_mono (b := b) s3
        have kk : Keep b H1 (upd H7 q (.tup [.ref p, .str (rowS fst), .ref q1, .ref q2])) := (k3.trans k7).trans m3
        refine k q ⟨tab, ends, fst, t, r⟩ _ (.tup (tup_of (by rw [del_ne nqb]; exact upd_same)) (.cons (dp_mono kk _ _ dp) (.cons (.str _) (.cons (dp_mono m3 _ _ d6') (.cons (dp_mono m3 _ _ d7) .nil))))) ⟨m1, gt, ge, gw, hsh, hgd, ?_⟩ l3 (k1.trans kk) (bar_upd B7 nqb)
        exact ⟨hrs, hrg⟩
end K6


set_option Elab.async false
set_option linter.all false
set_option maxRecDepth 100000
set_option maxHeartbeats 4000000
namespace K6
open PySem PySem.Spec PyProof.Rows L2 Rw
variable {P : Program} {w : World} {K : PySem.W.Frag} {mg : Str → Option Value} {base : Heap} {A : Ad} {fd : Fds}
structure ScAt (K : PySem.W.Frag) (H : Hp) (v : V) (S : Scr) : Prop where
  ob : ∃ a at_ aw al xt xe, v = .ref a ∧ SqT K H a [.ref at_, .str (rowS S.first), .ref aw, .ref al] ∧ SqT K H at_ [.ref xt, .ref xe] ∧ Dp K H (.ref xt) (dTab S.tab) ∧ Dp K H (.ref xe) (dNats S.ends) ∧ Dp K H (.ref aw) (dWords S.words) ∧ Dp K H (.ref al) (dOuts S.lasts)
theorem sc_at {H : Hp} {v : V} {S : Scr} (h : Dp K H v (dScr S)) : ScAt K H v S := by
  obtain ⟨a, xs, rfl, hx, hd⟩ := dp_tup h
  cases hd with
  | cons h1 hd =>
    cases hd with
    | cons h2 hd =>
      cases hd with
      | cons h3 hd =>
        cases hd with
        | cons h4 hd =>
          cases hd
          cases h2
          obtain ⟨at_, x0, x1, rfl, ht, d0, d1⟩ := dp_two h1
          obtain ⟨xt, _, rfl, _, _⟩ := dp_tup d0
          obtain ⟨xe, _, rfl, _, _⟩ := dp_tup d1
          obtain ⟨aw, _, rfl, _, _⟩ := dp_tup h3
          obtain ⟨al, _, rfl, _, _⟩ := dp_tup h4
          exact ⟨a, at_, aw, al, xt, xe, rfl, hx, ht, d0, d1, h3, h4⟩
theorem nats_at {H : Hp} {x : Addr} {ns : List Nat} (h : Dp K H (.ref x) (dNats ns)) : SqT K H x (ns.map fun (k : Nat) => V.int (k : Int)) := by
  obtain ⟨a, xs, e, hx, hd⟩ := dp_tup h
  obtain rfl := V.ref.inj e
  have : xs = ns.map fun (k : Nat) => V.int (k : Int) := by
    rw [nats_int] at hd
    rw [dps_ints hd, List.map_map]
    rfl
  rw [← this]
  exact hx
/-- a new instance: its own objects are new -/
theorem same_made {H H2 : Hp} {x dx : Addr} {o1 o2 : HO} (hx : H x = none) (hdx : H dx = none) (h : ∀ b o, (upd (upd H dx o1) x o2) b = some o → b ≠ x → H2 b = some o) : Same H H2 := fun b o e => by
  have n1 : b ≠ x := fun z => by rw [z, hx] at e; cases e
  have n2 : b ≠ dx := fun z => by rw [z, hdx] at e; cases e
  exact h b o (by rw [upd_ne n1, upd_ne n2]; exact e) n1
theorem same_new2 {H : Hp} {x dx : Addr} {o1 o2 : HO} (hx : H x = none) (hdx : H dx = none) : Same H (upd (upd H dx o1) x o2) := fun b o e => by
  have n1 : b ≠ x := fun z => by rw [z, hx] at e; cases e
  have n2 : b ≠ dx := fun z => by rw [z, hdx] at e; cases e
  rw [upd_ne n1, upd_ne n2]
  exact e
def spWriter (K : PySem.W.Frag) (A : Ad) : Sp := fun vs H Q _ => ∃ (v : V) (m : Nat) (S : Scr), vs = [.int (m : Int), v] ∧ Dp K H v (dScr S) ∧ GoodS m S ∧ ∀ q H', H q = none → Same H H' → WrAt K A H' q m 2 S → Q (.ref q) H'
theorem ok_l_writer (T : Txt K mg A) (U : Funs K A fd) : FnOk P w K mg base CX0 16 A.l_writer fd.l_writer p_l_writer (spWriter K A) := by
  have b_Writer_init := U.b_Writer_init
  have G_Writer_init := ok_Writer_init (P := P) (w := w) (base := base) T U
  have b_Reader_init := U.b_Reader_init
  have G_Reader_init := ok_Reader_init (P := P) (w := w) (base := base) T U
  refine U.F_l_writer.ok sc_l_writer (fun vs H Q E h => ?_) (fun cdv A0 outer s H vs Q E hr h => ?_)
  · obtain ⟨v, m, S, rfl, _⟩ := h
    rfl
  · have hu := hu_of hr
    obtain ⟨v, m, S, rfl, hd, gs, k⟩ := h
    refine ⟨_, (pss_cons (ps_asg (pv 1) (w_tup (K := K) (n := 4) rfl (pgs_cons (pg_name (i := 2) sc_l_writer.nd rfl (Or.inl rfl)) (pgs_cons (pg_name (i := 3) sc_l_writer.nd rfl (Or.inl rfl)) (pgs_cons (pg_name (i := 4) sc_l_writer.nd rfl (Or.inl rfl)) (pgs_cons (pg_name (i := 5) sc_l_writer.nd rfl (Or.inl rfl)) pgs_nil))))))
       (pss_one (ps_ret (pe_make T.mk_Writer G_Writer_init (hr.mono (by decide)) (by rfl) T.m_Writer b_Writer_init .nil pass0 (pa_cons (pe_make T.mk_Reader G_Reader_init (hr.mono (by decide)) (by rfl) T.m_Reader b_Reader_init .nil pass0 (pa_cons (pv 0) (pa_cons (pe_ix (w_ixT (K := K)) (pv 2) pe_int (fun _ _ => rfl)) (pa_cons (pe_ix (w_ixT (K := K)) (pv 2) pe_int (fun _ _ => rfl)) pa_nil)))) (pa_cons pe_int (pa_cons (pv 3) (pa_cons (pv 4) (pa_cons (pv 5) pa_nil))))))))), ?_⟩
    obtain ⟨a, at_, aw, al, xt, xe, rfl, hx, ht, h1, h2, h3, h4⟩ := (sc_at hd).ob
    have hI : ∀ H', Same H H' → Dp K H' (.ref xt) (dTab S.tab) := fun H' s => dp_mono s _ _ h1
    refine ⟨_, rfl, a, _, rfl, hx, rfl, _, _, rfl, _, _, rfl, _, _, rfl, _, _, rfl, rfl, ?_⟩
    refine ⟨_, rfl, _, rfl, at_, _, _, _, rfl, rfl, ht, rfl, _, rfl, at_, _, _, _, rfl, rfl, ht, rfl, fun x dx hxn hdn hne => ?_⟩
    have s0 : Same H (upd (upd H dx (.own x)) x (.ins A.C dx [])) := same_new2 hxn hdn
    refine ⟨x, dx, xt, xe, m, S.tab, S.ends, rfl, upd_same, dp_mono s0 _ _ h1, dp_mono s0 _ _ h2, gs.w1, gs.gt, gs.ge, fun H2 hk hx2 => ⟨rfl, ?_⟩⟩
    have s2 : Same H H2 := same_made hxn hdn hk
    have R : RdAt K A.C H2 x m S.tab S.ends := ⟨dx, xt, xe, hx2, dp_mono s2 _ _ h1, dp_mono s2 _ _ h2⟩
    refine ⟨_, rfl, _, rfl, _, rfl, fun y dy hyn hdyn hney => ?_⟩
    have s3 : Same H2 (upd (upd H2 dy (.own y)) y (.ins A.C_Writer dy [])) := same_new2 hyn hdyn
    refine ⟨y, dy, x, aw, al, m, 2, S, rfl, upd_same, R.mono s3, dp_mono (s2.trans s3) _ _ h3, dp_mono (s2.trans s3) _ _ h4, gs, by decide, by decide, fun H4 hk4 hy4 => ⟨rfl, ?_⟩⟩
    have s4 : Same H2 H4 := same_made hyn hdyn hk4
    exact k y H4 (Same.free s2 hyn) (s2.trans s4) ⟨dy, x, aw, al, hy4, R.mono s4, dp_mono (s2.trans s4) _ _ h3, dp_mono (s2.trans s4) _ _ h4⟩
def spWrote (K : PySem.W.Frag) : Sp := fun vs H Q _ => ∃ (v : V) (m : Nat) (S : Scr) (l : Wd), vs = [v, .str (rowS l)] ∧ Dp K H v (dScr S) ∧ GoodS m S ∧ l.length ≤ 200 ∧ (∀ g ∈ l, g < m) ∧ Q (vW (wrote S l)) H
theorem along_len {n : Nat} {S : Scr} (gs : GoodS n S) {l : Wd} (hl : ∀ g ∈ l, g < n) : ∀ i, i ≤ l.length → ∀ s acc, along S (l.take i) = some (s, acc) → s < S.tab.length ∧ acc.length ≤ 4 * (i + 1)
  | 0, _, s, acc, h => by
    have e : some (0, S.first) = some (s, acc) := h
    injection e with e
    injection e with e1 e2
    subst e1 e2
    have := gs.gt.n1
    have := gs.fst.len
    omega
  | i + 1, hi, s, acc, h => by
    have hg : l[i]? = some l[i] := List.getElem?_eq_getElem (by omega)
    rw [along_take hg] at h
    cases e : along S (l.take i) with
    | none => rw [e] at h; cases h
    | some p =>
      obtain ⟨s0, acc0⟩ := p
      obtain ⟨h1, h2⟩ := along_len gs hl i (by omega) s0 acc0 e
      obtain ⟨row, r, o, ow, en⟩ := ent_at gs h1 (hl l[i] (List.getElem_mem (by omega)))
      rw [e] at h
      cases o with
      | none => rw [ent_none en] at h; cases h
      | some t =>
        cases ow with
        | none => exact absurd en.same Bool.false_ne_true
        | some wd =>
          rw [ent_some en] at h
          injection h with h
          injection h with e1 e2
          subst e1 e2
          have := (en.good wd rfl).len
          refine ⟨en.lt _ rfl, ?_⟩
          rw [List.length_append]
          omega
theorem ok_l_wrote (T : Txt K mg A) (U : Funs K A fd) : FnOk P w K mg base CX0 1 A.l_wrote fd.l_wrote p_l_wrote (spWrote K) := by
  refine U.F_l_wrote.ok sc_l_wrote (fun vs H Q E h => ?_) (fun cdv A0 outer s H vs Q E hr h => ?_)
  · obtain ⟨v, m, S, l, rfl, _⟩ := h
    rfl
  · have hu := hu_of hr
    obtain ⟨v, m, S, l, rfl, hd, gs, hl, hlt, k⟩ := h
    refine ⟨_, (pss_cons (ps_asg (pv 0) (w_tup (K := K) (n := 4) rfl (pgs_cons (pg_name (i := 2) sc_l_wrote.nd rfl (Or.inl rfl)) (pgs_cons (pg_name (i := 3) sc_l_wrote.nd rfl (Or.inl rfl)) (pgs_cons (pg_name (i := 4) sc_l_wrote.nd rfl (Or.inl rfl)) (pgs_cons (pg_name (i := 5) sc_l_wrote.nd rfl (Or.inl rfl)) pgs_nil))))))
       (pss_cons (ps_set (i := 6) sc_l_wrote.nd rfl (Or.inl rfl) pe_int)
       (pss_cons (ps_for PassesOwn.never rfl (pi_str (pv 1)) (pg_name (i := 7) sc_l_wrote.nd rfl (Or.inl rfl))
       (pss_cons (ps_set (i := 8) sc_l_wrote.nd rfl (Or.inl rfl) (w_bm (K := K) PySem.F.plainAttrs_str PySem.F.slot_str_index PySem.F.type_str_index mt_sindex pe_str (pa_cons (pv 7) pa_nil)))
       (pss_cons (ps_if (PW.pt (pw_or (pt_cmpR op_isN (pv 6) pe_non (nomark _)) (pw_or1 (pt_cmpR op_isN (pe_ix (w_ixT (K := K)) (pe_ix (w_ixT (K := K)) (pe_ix (w_ixT (K := K)) (pv 2) pe_int (fun _ _ => rfl)) (pv 6) (fun _ _ => rfl)) (pv 8) (fun _ _ => rfl)) pe_non (nomark _))))) (pss_one (ps_ret pe_non)) pss_nil)
       (pss_one (ps_par (i := 3) (j := 6) (by rfl) sc_l_wrote.nd rfl rfl (by decide) rfl rfl (pa_cons (pe_op op_add_str (pv 3) (pe_ix (w_ixT (K := K)) (pe_ix (w_ixT (K := K)) (pv 4) (pv 6) (fun _ _ => rfl)) (pv 8) (fun _ _ => rfl))) (pa_cons (pe_ix (w_ixT (K := K)) (pe_ix (w_ixT (K := K)) (pe_ix (w_ixT (K := K)) (pv 2) pe_int (fun _ _ => rfl)) (pv 6) (fun _ _ => rfl)) (pv 8) (fun _ _ => rfl)) pa_nil)) (by rfl))))))
       (pss_one (ps_ret (pe_ifExp (pt_cmpR (w_in (K := K)) (pv 6) (pe_ix (w_ixT (K := K)) (pv 2) pe_int (fun _ _ => rfl)) (by rfl)) (pe_op op_add_str (pv 3) (pe_ix (w_ixT (K := K)) (pv 5) (pv 6) (fun _ _ => rfl))) pe_non)))))), ?_⟩
    obtain ⟨a, at_, aw, al, xt, xe, rfl, hx, ht, h1, h2, h3, h4⟩ := (sc_at hd).ob
    have w8 := gs.gt.w8
    have he := nats_at h2
    refine ⟨_, rfl, a, _, rfl, hx, rfl, _, _, rfl, _, _, rfl, _, _, rfl, _, _, rfl, rfl, ?_⟩
    refine ⟨_, rfl, rowS l, rfl, ?_⟩
    refine for_str (z := rowS l) (fun i σ H' => ∃ (y7 y8 : Option V) (s : Nat) (acc : Wd), σ = [some (.ref a), some (.str (rowS l)), some (.ref at_), some (.str (rowS acc)), some (.ref aw), some (.ref al), some (.int (s : Int)), y7, y8] ∧ H' = H ∧
      along S (l.take i) = some (s, acc)) ?_ ?_ ?_
    · exact ⟨none, none, 0, S.first, rfl, rfl, rfl⟩
    · rintro i ch σ H2 hi ⟨y7, y8, s, acc, rfl, rfl, hal⟩
      obtain ⟨g, hg, rfl⟩ := rowS_at hi
      have gm : g < m := hlt g (List.mem_of_getElem? hg)
      have il : i < l.length := lt_of_get hg
      obtain ⟨hs, hacc⟩ := along_len gs hlt i (by omega) s acc hal
      obtain ⟨rest, hrest⟩ := index_at g (by omega)
      obtain ⟨row, r, o, ow, e⟩ := ent_at gs hs gm
      have next := along_take (S := S) hg
      rw [hal] at next
      obtain ⟨_, ws, bw, yw, ew, hw, hws, hyw, hywg⟩ := words_at h3 e.hr1 e.how
      obtain rfl := V.ref.inj ew
      obtain ⟨_, ts, bt, yt, et, htt, hts, hyt, hytg⟩ := tab_at h1 e.hrow e.ho
      obtain rfl := V.ref.inj et
      refine ⟨rfl, _, rfl, _, _, g, rest, rfl, rfl, hrest, ?_⟩
      refine ⟨_, rfl, rfl, _, rfl, iteF ?_⟩
      refine ⟨_, rfl, at_, _, _, _, rfl, rfl, ht, rfl, _, rfl, xt, ts, _, _, rfl, rfl, htt, atI_nat hts, _, rfl, bt, yt, _, _, rfl, rfl, hyt, atI_nat hytg, ?_⟩
      cases o with
      | none =>
        refine ⟨rfl, _, rfl, iteT ?_⟩
        rw [ent_none e] at next
        rw [along_none next] at k
        exact k
      | some t =>
        cases ow with
        | none => exact absurd e.same Bool.false_ne_true
        | some wd =>
          rw [ent_some e] at next
          have hwd := (e.good wd rfl).len
          refine ⟨rfl, _, rfl, iteF (g_next ?_)⟩
          refine ⟨_, rfl, _, rfl, _, rfl, aw, ws, _, _, rfl, rfl, hw, atI_nat hws, _, rfl, bw, yw, _, _, rfl, rfl, hyw, atI_nat hywg, _, _, rfl, rfl, szl (by rw [rowS_len, rowS_len]; omega), ?_⟩
          refine ⟨_, rfl, at_, _, _, _, rfl, rfl, ht, rfl, _, rfl, xt, ts, _, _, rfl, rfl, htt, atI_nat hts, _, rfl, bt, yt, _, _, rfl, rfl, hyt, atI_nat hytg, ?_⟩
          refine ⟨_, _, rfl, ?_⟩
          refine ⟨some (.str ⟨#[97 + g]⟩), some (.int (g : Int)), t, acc ++ wd, ?_, rfl, next⟩
          rw [← rowS_app]
          rfl
    · rintro σ H2 ⟨y7, y8, s, acc, rfl, rfl, hal⟩
      rw [rowS_size] at hal
      obtain ⟨hs, hacc⟩ := along_len gs hlt l.length (Nat.le_refl _) s acc hal
      rw [List.take_length] at hal
      obtain ⟨ow, eo, hsome, hgood⟩ := last_of gs hs
      obtain ⟨_, xs, ea, hxl, hxs⟩ := lasts_at h4 eo
      obtain rfl := V.ref.inj ea
      have ek : wrote S l = ow.map (acc ++ ·) := by
        unfold wrote
        rw [hal]
        show (S.lasts.getD s none).map (acc ++ ·) = _
        rw [getD_some eo]
      rw [ek] at k
      refine ⟨_, rfl, _, rfl, at_, _, _, _, rfl, rfl, ht, rfl, xe, _, rfl, .inr he, rfl, flat_ints _, ?_⟩
      rw [if_neg Bool.false_ne_true, show inV (V.int (s : Int)) (S.ends.map fun (k : Nat) => V.int (k : Int)) = decide (s ∈ S.ends) from inV_nats S.ends (some s)]
      refine ⟨_, rfl, ?_⟩
      rw [← hsome]
      cases ow with
      | none => exact iteF k
      | some lw =>
        refine iteT ?_
        have hlw := (hgood lw rfl).len
        refine ⟨_, rfl, _, rfl, _, rfl, al, xs, _, _, rfl, rfl, hxl, atI_nat hxs, _, _, rfl, rfl, szl (by rw [rowS_len, rowS_len]; omega), ?_⟩
        rw [rowS_app]
        exact k
end K6


set_option Elab.async false
set_option linter.all false
set_option maxRecDepth 100000
set_option maxHeartbeats 4000000
namespace K6
open PySem PySem.Spec PyProof.Rows L2 Rw
variable {P : Program} {w : World} {K : PySem.W.Frag} {mg : Str → Option Value} {base : Heap} {A : Ad} {fd : Fds}
/-! ### all rows up to a length -/
def vRows (f : List Wd) : List V := f.map fun l => .str (rowS l)
theorem vRows_app (f g : List Wd) : vRows (f ++ g) = vRows f ++ vRows g := List.map_append
theorem vRows_get {f : List Wd} {i : Nat} {x : V} (h : (vRows f)[i]? = some x) : ∃ l, f[i]? = some l ∧ x = .str (rowS l) := by
  unfold vRows at h
  rw [List.getElem?_map] at h
  cases e : f[i]? with
  | none => rw [e] at h; cases h
  | some l =>
    rw [e] at h
    exact ⟨l, rfl, (Option.some.inj h).symm⟩
theorem pow34 : ∀ i : Nat, i ≤ 3 → 3 ^ i ≤ 27 ∧ 4 ^ i ≤ 64 ∧ 4 ^ i + 3 * 3 ^ i ≤ 4 ^ (i + 1) := by decide
def Rws (m t : Nat) (f : List Wd) : Prop := ∀ l ∈ f, l.length ≤ t ∧ ∀ g ∈ l, g < m
def spRows : Sp := fun vs H Q _ => ∃ m : Nat, vs = [.int (m : Int), .int 3] ∧ m ≤ 3 ∧ ∀ q f H', H q = none → Same H H' → H' q = some (.lst (vRows f)) → Rws m 3 f → f.length ≤ 64 → Q (.ref q) H'
theorem ok_l_words (T : Txt K mg A) (U : Funs K A fd) : FnOk P w K mg base CX0 1 A.l_words fd.l_words p_l_words (spRows) := by
  refine U.F_l_words.ok sc_l_words (fun vs H Q E h => ?_) (fun cdv A0 outer s H vs Q E hr h => ?_)
  · obtain ⟨m, rfl, _⟩ := h
    rfl
  · have hu := hu_of hr
    obtain ⟨m, rfl, hm, k⟩ := h
    refine ⟨_, (pss_cons (ps_par (i := 2) (j := 3) (by rfl) sc_l_words.nd rfl rfl (by decide) rfl rfl (pa_cons (pe_lst (pa_cons pe_str pa_nil)) (pa_cons (pe_lst (pa_cons pe_str pa_nil)) pa_nil)) (by rfl))
       (pss_cons (ps_for PassesOwn.never rfl (pi_range1 (by rfl) T.b_range (pa_cons (pv 1) pa_nil)) (pg_name (i := 4) sc_l_words.nd rfl (Or.inl rfl))
       (pss_cons (ps_set (i := 5) sc_l_words.nd rfl (Or.inl rfl) (pe_lst pa_nil))
       (pss_cons (ps_for PassesOwn.never rfl (w_piL (K := K) (pv 3)) (pg_name (i := 6) sc_l_words.nd rfl (Or.inr rfl))
       (pss_one (ps_set (i := 5) sc_l_words.nd rfl (Or.inl rfl) (pe_op op_cat (pv 5) (pe_lc (own := [("_law_letter", 7)]) (g := gName 7) (tt := tYes) (by rfl) sc_l_words.nd (pi_str (pe_slice sl_str pe_str po_none (po_some (pv 0)))) (blkOk_by (own := [("_law_letter", 7)]) (by rfl)) (fun _ _ _ _ _ => (pg_name (i := 7) sc_l_words.nd rfl (Or.inl rfl))) (fun _ _ _ _ _ => pts_nil) (fun _ _ _ _ _ => (pe_op op_add_str (pv 6) (pv 7))))))))
       (pss_one (ps_par (i := 2) (j := 3) (by rfl) sc_l_words.nd rfl rfl (by decide) rfl rfl (pa_cons (pe_op op_cat (pv 2) (pv 5)) (pa_cons (pv 5) pa_nil)) (by rfl))))))
       (pss_one (ps_ret (pv 2))))), ?_⟩
    refine ⟨by show 1 ≤ sizeLine; decide, fun q1 h1 => ⟨by show 1 ≤ sizeLine; decide, fun q2 h2 => ⟨_, _, rfl, ?_⟩⟩⟩
    refine ⟨_, rfl, 3, rfl, by omega, by omega, ?_⟩
    have s12 : Same H (upd (upd H q1 (.lst [.str ""])) q2 (.lst [.str ""])) := (same_upd h1).trans (same_upd h2)
    have ne : q1 ≠ q2 := ne_of_none upd_same h2
    refine for_range (lo := 0) (n := 3) (fun t σ H' => ∃ f l y4 y5 y6 fl ll, σ = [some (.int (m : Int)), some (.int 3), some (.ref f), some (.ref l), y4, y5, y6, none] ∧ H f = none ∧ Same H H' ∧
      H' f = some (.lst (vRows fl)) ∧ H' l = some (.lst (vRows ll)) ∧ Rws m t fl ∧ Rws m t ll ∧ fl.length ≤ 4 ^ t ∧ ll.length ≤ 3 ^ t) ?_ ?_ ?_
    · refine ⟨q1, q2, none, none, none, [[]], [[]], rfl, h1, s12, by rw [upd_ne ne]; exact upd_same, upd_same, ?_, ?_, Nat.le_refl _, Nat.le_refl _⟩
      · intro l hl
        rw [List.mem_singleton.mp hl]
        exact ⟨Nat.le_refl _, fun g hg => by simp at hg⟩
      · intro l hl
        rw [List.mem_singleton.mp hl]
        exact ⟨Nat.le_refl _, fun g hg => by simp at hg⟩
    · rintro t σ H3 ht ⟨f, l, y4, y5, y6, fl, ll, rfl, hf, s3, h3f, h3l, rf, rl, lf, lll⟩
      obtain ⟨p27, p64, pst⟩ := pow34 t (by omega)
      refine ⟨Nat.zero_le _, fun c hc => ?_⟩
      have nel : l ≠ c := ne_of_none h3l hc
      have nef : f ≠ c := ne_of_none h3f hc
      have sc := same_upd (o := .lst []) hc
      refine ⟨_, rfl, l, rfl, ⟨_, lst_of (sc _ _ h3l)⟩, ?_⟩
      have lx : (vRows ll).length = ll.length := List.length_map _
      refine for_list (xs := vRows ll) (fun a σ H' => ∃ y4 y6 L gl, σ = [some (.int (m : Int)), some (.int 3), some (.ref f), some (.ref l), y4, some (.ref L), y6, none] ∧ Same H3 H' ∧
        H' L = some (.lst (vRows gl)) ∧ Rws m (t + 1) gl ∧ gl.length ≤ 3 * a) ?_ ?_ ?_ ?_
      · exact ⟨_, _, c, [], rfl, sc, upd_same, fun l h => by simp at h, Nat.le_refl _⟩
      · rintro a σ H' _ ⟨_, _, _, _, _, s4, _⟩
        exact lst_of (s4 _ _ h3l)
      · rintro a x σ H4 hx ⟨y4, y6, L, gl, rfl, s4, h4, rg, lg⟩
        obtain ⟨line, el, rfl⟩ := vRows_get hx
        obtain ⟨hline, hlt⟩ := rl line (List.mem_of_getElem? el)
        have ha : a < ll.length := lt_of_get el
        refine ⟨_, rfl, ?_⟩
        refine cS (z := rowS (List.range m)) (fun i => [.str (rowS (line ++ [(List.range m).getD i 0]))]) (fun R r => ?_) (fun _ => Nat.le_refl 1) (by rw [rowS_size, List.length_range]; omega) (fun _ => rfl) (fun i c5 hi => turn_yes fun H5 R5 s5 r5 => ?_) (fun D H5 hD s5 h5 => ?_)
        · rw [← cut_at m (by omega)] at r
          exact ⟨_, rfl, (m : Int), rfl, _, rfl, szl (by decide +kernel), r⟩
        · obtain ⟨g, hg, rfl⟩ := rowS_at hi
          have gd : (List.range m).getD i 0 = g := by rw [List.getD_eq_getElem?_getD, hg]; rfl
          rw [gd, ← rowS_snoc] at r5
          exact ⟨_, rfl, _, rfl, _, _, rfl, rfl, szl (by rw [rowS_len]; show line.length + 1 ≤ 100000; omega), r5 H5 (Same.refl _)⟩
        · have e5 : pre (fun i => [V.str (rowS (line ++ [(List.range m).getD i 0]))]) (rowS (List.range m)).cps.size = vRows ((List.range m).map fun g => line ++ [(List.range m).getD g 0]) := by
            rw [rowS_size, List.length_range, pre_map]
            unfold vRows
            rw [List.map_map]
            rfl
          rw [e5] at h5
          have lnew : ((List.range m).map fun g => line ++ [(List.range m).getD g 0]).length = m := by simp
          refine ⟨L, D, _, _, rfl, rfl, s5 _ _ h4, h5, szl (by rw [vRows, vRows, List.length_map, List.length_map, lnew]; omega), fun E hE => ?_⟩
          refine ⟨_, _, E, gl ++ ((List.range m).map fun g => line ++ [(List.range m).getD g 0]), rfl, (s4.trans s5).trans (same_upd hE), by rw [upd_same, vRows_app], ?_, ?_⟩
          · intro r hr1
            rcases List.mem_append.mp hr1 with h | h
            · exact rg r h
            · obtain ⟨g, hg, rfl⟩ := List.mem_map.mp h
              have gm := List.mem_range.mp hg
              have e1 : (List.range m).getD g 0 = g := by rw [List.getD_eq_getElem?_getD, List.getElem?_range gm]; rfl
              rw [e1]
              refine ⟨by rw [List.length_append]; show line.length + 1 ≤ t + 1; omega, fun x hx => ?_⟩
              rcases List.mem_append.mp hx with h | h
              · exact hlt x h
              · rw [List.mem_singleton.mp h]
                exact gm
          · rw [List.length_append, lnew]
            omega
      · rintro σ H4 ⟨y4, y6, L, gl, rfl, s4, h4, rg, lg⟩
        rw [lx] at lg
        have h4f := s4 _ _ h3f
        refine ⟨_, rfl, _, rfl, f, L, _, _, rfl, rfl, h4f, h4, szl (by rw [vRows, vRows, List.length_map, List.length_map]; omega), fun E hE => ?_⟩
        have nE : L ≠ E := ne_of_none h4 hE
        refine ⟨_, rfl, _, _, rfl, ?_⟩
        refine ⟨E, L, _, _, _, fl ++ gl, gl, rfl, Same.free (s3.trans s4) hE, (s3.trans s4).trans (same_upd hE), by rw [upd_same, vRows_app], by rw [upd_ne nE]; exact h4, ?_, rg, ?_, ?_⟩
        · intro r hr1
          rcases List.mem_append.mp hr1 with h | h
          · obtain ⟨a1, a2⟩ := rf r h
            exact ⟨by omega, a2⟩
          · exact rg r h
        · rw [List.length_append]
          omega
        · rw [Nat.pow_succ]
          omega
    · rintro σ H3 ⟨f, l, y4, y5, y6, fl, ll, rfl, hf, s3, h3f, h3l, rf, rl, lf, lll⟩
      exact ⟨_, rfl, k f fl H3 hf s3 h3f rf lf⟩
/-! ### calls by name -/
def gK {α : Type} : List α → List α → List α
  | [], [a, b] => [b, a]
  | _, _ => []
theorem gK_rel {vs : List V} {us : List Value} {zs : List V} {ws : List Value} (r : Vals vs us) (q : Vals zs ws) : Vals (gK vs zs) (gK us ws) := by
  cases r with
  | cons a b => exact .nil
  | nil =>
    cases q with
    | nil => exact .nil
    | cons a b =>
      cases b with
      | nil => exact .nil
      | cons c d =>
        cases d with
        | nil => exact .cons c (.cons a .nil)
        | cons e f => exact .nil
theorem gK_two {us ws : List Value} (h : (gK us ws).length = 2) : ∃ a b, us = [] ∧ ws = [a, b] := by
  cases us with
  | cons a b => simp [gK] at h
  | nil =>
    match ws, h with
    | [a, b], _ => exact ⟨a, b, rfl, rfl⟩
    | [], h => simp [gK] at h
    | [_], h => simp [gK] at h
    | _ :: _ :: _ :: _, h => simp [gK] at h
theorem kb_written_0_row_writer_of {f : Addr} {fd : FuncData} (F : Fun K "written" "written" s_written f fd) : KBinds K fd p_written ["row", "writer"] gK gK := by
  obtain ⟨oc, od, kV, doc, pm, an, cdv, ct, osl, rfl, lk, hcd⟩ := F.ex
  refine ⟨fun s us ws _ hl => ?_, gK_rel⟩
  obtain ⟨a, b, rfl, rfl⟩ := gK_two hl
  exact .of_eq rfl
def gW {α : Type} : List α → List α → List α
  | [s], [l, o, t, n, r] => [s, r, n, t, o, l]
  | _, _ => []
theorem gW_rel {vs : List V} {us : List Value} {zs : List V} {ws : List Value} (r : Vals vs us) (q : Vals zs ws) : Vals (gW vs zs) (gW us ws) := by
  cases r with
  | nil => exact .nil
  | cons a b =>
    cases b with
    | cons c d => exact .nil
    | nil =>
      cases q with
      | nil => exact .nil
      | cons q1 q =>
        cases q with
        | nil => exact .nil
        | cons q2 q =>
          cases q with
          | nil => exact .nil
          | cons q3 q =>
            cases q with
            | nil => exact .nil
            | cons q4 q =>
              cases q with
              | nil => exact .nil
              | cons q5 q =>
                cases q with
                | cons q6 q => exact .nil
                | nil => exact .cons a (.cons q5 (.cons q4 (.cons q3 (.cons q2 (.cons q1 .nil)))))
theorem five_of {α : Type} : ∀ {ws : List α}, ws.length = 5 → ∃ a b c d e, ws = [a, b, c, d, e]
  | [a, b, c, d, e], _ => ⟨a, b, c, d, e, rfl⟩
  | [], h => by simp at h
  | [_], h => by simp at h
  | [_, _], h => by simp at h
  | [_, _, _], h => by simp at h
  | [_, _, _, _], h => by simp at h
  | _ :: _ :: _ :: _ :: _ :: _ :: _, h => by simp at h
theorem one_of {α : Type} : ∀ {ws : List α}, ws.length = 1 → ∃ a, ws = [a]
  | [a], _ => ⟨a, rfl⟩
  | [], h => by simp at h
  | _ :: _ :: _, h => by simp at h
theorem kn_Writer_lasts_words_start_signs_reader_of {f : Addr} {fd : FuncData} (F : Fun K "__init__" "Writer.__init__" s_Writer_init f fd) : KBn K fd p_Writer_init 1 ["lasts", "words", "start", "signs", "reader"] gW gW := by
  obtain ⟨oc, od, kV, doc, pm, an, cdv, ct, osl, rfl, lk, hcd⟩ := F.ex
  refine ⟨fun s us ws _ hl hk => ?_, gW_rel⟩
  obtain ⟨u, rfl⟩ := one_of hl
  obtain ⟨a, b, c, d, e, rfl⟩ := five_of hk
  exact .of_eq rfl
/-! ### what is shown -/
theorem tup_le (ts : List Str) : (tupleText ts).length ≤ piled ts + 3 := by
  unfold tupleText
  rw [strLen_append, strLen_append]
  have e1 : ((("(" : String) : Str)).length = 1 := rfl
  have e3 : (((if ts.length == 1 then ",)" else ")" : String) : Str)).length ≤ 2 := by split <;> decide
  rw [e1]
  by_cases h : ts = []
  · subst h
    have : (Str.join ", " ([] : List Str)).length = 0 := rfl
    rw [this]
    omega
  · have := join_length_add ts h
    omega
theorem lst_le : ∀ ts : List Str, (listText ts).length ≤ piled ts + 3
  | [] => by
    show 2 ≤ _
    omega
  | a :: ts => by
    unfold listText
    rw [strLen_append]
    show (textFrom 1 (("[" : Str) ++ ((if 0 > 0 then ", " else "" : String) : Str) ++ a) ts).length + _ ≤ _
    rw [textFrom_length_pos _ 1 _ (by decide), strLen_append, strLen_append, piled_cons]
    have e1 : ("[" : Str).length = 1 := rfl
    have e2 : (((if 0 > 0 then ", " else "" : String) : Str)).length = 0 := rfl
    have e3 : ("]" : Str).length = 1 := rfl
    rw [e1, e2, e3]
    omega
theorem piled_le {α : Type} (f : α → PyData) (n : Nat) : ∀ l : List α, (∀ x ∈ l, (f x).shown.length ≤ n) → piled (PyData.shownAll (l.map f)) ≤ l.length * (n + 2)
  | [], _ => by
    rw [List.map_nil, PyData.shownAll]
    exact Nat.zero_le _
  | x :: l, h => by
    rw [List.map_cons, PyData.shownAll, piled_cons, List.length_cons, Nat.succ_mul]
    have := h x (List.mem_cons_self ..)
    have := piled_le f n l fun y hy => h y (List.mem_cons_of_mem _ hy)
    omega
theorem showable_all {α : Type} (f : α → PyData) : ∀ l : List α, (∀ x ∈ l, (f x).showable = true) → PyData.showableAll (l.map f) = true
  | [], _ => rfl
  | x :: l, h => by
    show ((f x).showable && PyData.showableAll (l.map f)) = true
    rw [h x (List.mem_cons_self ..), showable_all f l fun y hy => h y (List.mem_cons_of_mem _ hy)]
    rfl
theorem row_shown {l : Wd} (h : ∀ g ∈ l, g < 1000) (h4 : l.length ≤ 4) : (PyData.str (rowS l)).shown.length ≤ 42 := by
  show (reprText (rowS l)).length ≤ 42
  refine Nat.le_trans (StrLaws.reprText_len _ fun c hc => ?_) (by rw [rowS_len]; omega)
  unfold rowS at hc
  rw [List.toList_toArray] at hc
  obtain ⟨g, hg, rfl⟩ := List.mem_map.mp hc
  have := h g hg
  omega
theorem W_shown {o : Option Wd} (h : ∀ l, o = some l → GoodW l) : (dW o).shown.length ≤ 42 := by
  cases o with
  | none =>
    show ("None" : Str).length ≤ 42
    decide
  | some l => exact row_shown (fun g hg => by have := (h l rfl).lt g hg; omega) (h l rfl).len
theorem outs_shown {r : List (Option Wd)} (h : ∀ l, some l ∈ r → GoodW l) (h8 : r.length ≤ 8) : (dOuts r).shown.length ≤ 355 := by
  unfold dOuts
  rw [PyData.shown]
  have := tup_le (PyData.shownAll (r.map dW))
  have := piled_le dW 42 r fun x hx => W_shown fun l e => h l (by rw [← e]; exact hx)
  have : r.length * (42 + 2) ≤ 8 * 44 := Nat.mul_le_mul h8 (Nat.le_refl _)
  omega
theorem words_shown {t : Tw} (h : ∀ r ∈ t, (∀ l, some l ∈ r → GoodW l) ∧ r.length ≤ 8) (h3 : t.length ≤ 3) : (dWords t).shown.length ≤ 1074 := by
  unfold dWords
  rw [PyData.shown]
  have := tup_le (PyData.shownAll (t.map dOuts))
  have := piled_le dOuts 355 t fun x hx => outs_shown (h x hx).1 (h x hx).2
  have : t.length * (355 + 2) ≤ 3 * 357 := Nat.mul_le_mul h3 (Nat.le_refl _)
  omega
theorem W_able (o : Option Wd) : (dW o).showable = true := by cases o <;> rfl
theorem outs_able (r : List (Option Wd)) : (dOuts r).showable = true := showable_all dW r fun x _ => W_able x
theorem words_able (t : Tw) : (dWords t).showable = true := showable_all dOuts t fun x _ => outs_able x
def dTold (S : Scr) : PyData := .list [.int 2, .str (rowS S.first), dWords S.words, dOuts S.lasts]
theorem told_able (S : Scr) : (dTold S).showable = true := by
  show (decide ((2 : Int).natAbs.log2 < 1920) && (true && ((dWords S.words).showable && ((dOuts S.lasts).showable && true)))) = true
  rw [words_able, outs_able]
  rfl
theorem told_dep (S : Scr) : (dTold S).depth ≤ 10 := by
  show max 0 (max 0 (max (dWords S.words).depth (max (dOuts S.lasts).depth 0))) + 1 ≤ 10
  have := words_dep S.words
  have := outs_dep S.lasts
  omega
theorem told_shown {m : Nat} {S : Scr} (gs : GoodS m S) (h3 : S.tab.length ≤ 3) : (dTold S).shown.length ≤ sizeLine := by
  refine szl ?_
  unfold dTold
  rw [PyData.shown]
  have a1 := lst_le (PyData.shownAll [.int 2, .str (rowS S.first), dWords S.words, dOuts S.lasts])
  simp only [PyData.shownAll, piled_cons, piled_nil] at a1 ⊢
  have a2 : (PyData.int 2).shown.length = 1 := by rw [PyData.shown]; decide +kernel
  have a3 := row_shown (l := S.first) (fun g hg => by have := gs.fst.lt g hg; omega) gs.fst.len
  have w8 := gs.gt.w8
  have a4 := words_shown (t := S.words) (fun r hr1 => ⟨gs.wgood r hr1, by
    obtain ⟨i, hi, e⟩ := List.getElem_of_mem hr1
    have e1 : S.words[i]? = some r := by rw [List.getElem?_eq_getElem hi, e]
    have hi2 : i < S.tab.length := by rw [← gs.wlen]; exact hi
    have sh := gs.row e1 (List.getElem?_eq_getElem hi2)
    have hl := (gs.gt.rows S.tab[i] (List.getElem_mem hi2)).1
    have := congrArg List.length sh
    simp only [List.length_map] at this
    omega⟩) (by rw [gs.wlen]; exact h3)
  have a5 := outs_shown (r := S.lasts) gs.lst.good (by rw [gs.llen]; omega)
  omega
end K6


set_option Elab.async false
set_option linter.all false
set_option maxRecDepth 100000
set_option maxHeartbeats 4000000
namespace K6
open PySem PySem.Spec PyProof.Rows L2 Rw
variable {P : Program} {w : World} {K : PySem.W.Frag} {mg : Str → Option Value} {base : Heap} {A : Ad} {fd : Fds}
theorem g_ifS {c : TT} {t u : TS} {D : Ends} {σ : L2.St} {H : Hp} (h : c σ H fun b H1 => if b = true then t D σ H1 else u D σ H1) : tIfS c t u D σ H := h
theorem g_test {te : TE} {σ : L2.St} {H : Hp} {Q : Bool → Hp → Prop} (h : te σ H fun x H1 => ∃ k, x = .bl k ∧ Q k H1) : tTest te σ H Q := h
theorem g_op {r : R2} {ta tb : TE} {σ : L2.St} {H : Hp} {Q : VK} (h : ta σ H fun x H1 => tb σ H1 fun y H2 => r x y H2 Q) : tOp r ta tb σ H Q := h
/-! ### data of tuples alone stand beside the flask -/
mutual
def tups : PyData → Bool
  | .tuple xs => tupsAll xs
  | .list _ => false
  | .dict _ => false
  | .none => true
  | .bool _ => true
  | .int _ => true
  | .str _ => true
def tupsAll : List PyData → Bool
  | [] => true
  | x :: xs => tups x && tupsAll xs
end
mutual
theorem dp_del {b : Addr} {H : Hp} {L : List V} (hb : H b = some (.lst L)) : ∀ (d : PyData) (v : V), tups d = true → Dp K H v d → Dp K (del b H) v d
  | .none, _, _, h => by cases h; exact .non
  | .bool c, _, _, h => by cases h; exact .bl c
  | .int i, _, _, h => by cases h; exact .int i
  | .str x, _, _, h => by cases h; exact .str x
  | .list ds, _, t, h => by simp [tups] at t
  | .tuple ds, _, t, h => by
    cases h with
    | tup a b1 =>
      refine .tup ?_ (dps_del hb ds _ (by simpa [tups] using t) b1)
      rcases a with (a | ⟨o, a⟩) | a
      · refine .inl (.inl ?_)
        rw [del_ne (fun z => by rw [z, hb] at a; cases a)]
        exact a
      · refine .inl (.inr ⟨o, ?_⟩)
        rw [del_ne (fun z => by rw [z, hb] at a; cases a)]
        exact a
      · exact .inr a
  | .dict _, _, t, h => by simp [tups] at t
theorem dps_del {b : Addr} {H : Hp} {L : List V} (hb : H b = some (.lst L)) : ∀ (ds : List PyData) (vs : List V), tupsAll ds = true → DpAll K H vs ds → DpAll K (del b H) vs ds
  | [], _, _, h => by cases h; exact .nil
  | d :: ds, _, t, h => by
    rw [tupsAll, Bool.and_eq_true] at t
    cases h with
    | cons a b1 => exact .cons (dp_del hb d _ t.1 a) (dps_del hb ds _ t.2 b1)
end
theorem tups_map {α : Type} (f : α → PyData) : ∀ l : List α, (∀ x, tups (f x) = true) → tupsAll (l.map f) = true
  | [], _ => by rw [List.map_nil, tupsAll]
  | x :: l, h => by rw [List.map_cons, tupsAll, h x, tups_map f l h]; rfl
theorem tups_tab (t : Tab) : tups (dTab t) = true := by
  unfold dTab
  rw [tups]
  refine tups_map dRow t fun r => ?_
  unfold dRow
  rw [tups]
  exact tups_map dO r fun o => by cases o <;> (unfold dO; rw [tups])
theorem tups_nats (l : List Nat) : tups (dNats l) = true := by
  unfold dNats
  rw [tups]
  exact tups_map _ l fun x => by rw [tups]
theorem tups_outs (r : List (Option Wd)) : tups (dOuts r) = true := by
  unfold dOuts
  rw [tups]
  exact tups_map dW r fun o => by cases o <;> (unfold dW; rw [tups])
theorem tups_words (t : Tw) : tups (dWords t) = true := by
  unfold dWords
  rw [tups]
  exact tups_map dOuts t fun r => tups_outs r
theorem wr_del {b : Addr} {H : Hp} {p m n : Nat} {S : Scr} (B : BarAt H b) (W : WrAt K A H p m n S) : WrAt K A (del b H) p m n S := by
  obtain ⟨s0, c0, f0, hb, _⟩ := B.ob
  obtain ⟨dx, pr, aw, al, w1, w2, w3, w4⟩ := W.ob
  obtain ⟨dr, ar, er, r1, r2, r3⟩ := w2.ob
  refine ⟨dx, pr, aw, al, ?_, ⟨dr, ar, er, ?_, dp_del hb _ _ (tups_tab _) r2, dp_del hb _ _ (tups_nats _) r3⟩, dp_del hb _ _ (tups_words _) w3, dp_del hb _ _ (tups_outs _) w4⟩
  · rw [del_ne (fun z => by rw [z, hb] at w1; cases w1)]
    exact w1
  · rw [del_ne (fun z => by rw [z, hb] at r1; cases r1)]
    exact r1
theorem eqR_same (n : Nat) (tab : Tab) (ends : List Nat) : eqR n n tab tab ends ends = true := by
  unfold eqR
  rw [decide_eq_true rfl, eqv_same (tab_shaped _), eqv_same (nats_shaped _)]
  rfl
theorem along_lt {n : Nat} {S : Scr} (gs : GoodS n S) {l : Wd} (hl : ∀ g ∈ l, g < n) : ∀ i, i ≤ l.length → ∀ s acc, along S (l.take i) = some (s, acc) → s < S.tab.length ∧ ∀ x ∈ acc, x < 2
  | 0, _, s, acc, h => by
    have e : some (0, S.first) = some (s, acc) := h
    injection e with e
    injection e with e1 e2
    subst e1 e2
    have := gs.gt.n1
    exact ⟨by omega, gs.fst.lt⟩
  | i + 1, hi, s, acc, h => by
    have hg : l[i]? = some l[i] := List.getElem?_eq_getElem (by omega)
    rw [along_take hg] at h
    cases e : along S (l.take i) with
    | none => rw [e] at h; cases h
    | some p =>
      obtain ⟨s0, acc0⟩ := p
      obtain ⟨h1, h2⟩ := along_lt gs hl i (by omega) s0 acc0 e
      obtain ⟨row, r, o, ow, en⟩ := ent_at gs h1 (hl l[i] (List.getElem_mem (by omega)))
      rw [e] at h
      cases o with
      | none => rw [ent_none en] at h; cases h
      | some t =>
        cases ow with
        | none => exact absurd en.same Bool.false_ne_true
        | some wd =>
          rw [ent_some en] at h
          injection h with h
          injection h with e1 e2
          subst e1 e2
          refine ⟨en.lt _ rfl, fun x hx => ?_⟩
          rcases List.mem_append.mp hx with h | h
          · exact h2 x h
          · exact (en.good wd rfl).lt x h
theorem wrote_lt {n : Nat} {S : Scr} (gs : GoodS n S) {l : Wd} (hl : ∀ g ∈ l, g < n) : ∀ x, wrote S l = some x → ∀ g ∈ x, g < 2 := by
  intro x h
  unfold wrote at h
  cases e : along S l with
  | none => rw [e] at h; cases h
  | some p =>
    obtain ⟨s, acc⟩ := p
    have e' : along S (l.take l.length) = some (s, acc) := by rw [List.take_length]; exact e
    obtain ⟨h1, h2⟩ := along_lt gs hl l.length (Nat.le_refl _) s acc e'
    obtain ⟨ow, eo, _, hgood⟩ := last_of gs h1
    rw [e] at h
    have h : (S.lasts.getD s none).map (acc ++ ·) = some x := h
    rw [getD_some eo] at h
    cases ow with
    | none => cases h
    | some lw =>
      obtain rfl := Option.some.inj h
      intro g hg
      rcases List.mem_append.mp hg with h | h
      · exact h2 g h
      · exact (hgood lw rfl).lt g h
theorem lst_shaped {α : Type} {f : α → PyData} {l : List α} (h : ∀ x ∈ l, (f x).canLay0 = true) (h2 : ∀ x ∈ l, (f x).depth ≤ 3) : SeqAt.shaped (.list (l.map f)) = true := by
  refine shaped_mk (lay_all f l h) ?_
  show PyData.depthAll (l.map f) + 1 ≤ 64
  have := dep_all f 3 l h2
  omega
theorem wlist_shaped {m : Nat} {S : Scr} (gs : GoodS m S) {f : List Wd} (rw_ : Rws m 3 f) : SeqAt.shaped (.list (f.map fun l => dW (wrote S l))) = true := by
  refine lst_shaped (f := fun l => dW (wrote S l)) (fun x hx => ?_) (fun x _ => Nat.le_trans (dep_W _) (by decide))
  cases e : wrote S x with
  | none => rfl
  | some r => exact lay_row r fun g hg => by have := wrote_lt gs (rw_ x hx).2 r e g hg; omega
theorem cut_abc : ∀ n : Nat, n ≤ 3 → cutS ("abc" : Str) none (some (n : Int)) = rowS (List.range n)
  | 0, _ => by decide +kernel
  | 1, _ => by decide +kernel
  | 2, _ => by decide +kernel
  | 3, _ => by decide +kernel
  | n + 4, h => by omega
theorem scal_W (o : Option Wd) : scal (vW o) (vW o) = true := by cases o <;> rfl
theorem wroteV (S : Scr) (f : List Wd) : pre (fun i => [vW (wrote S (f.getD i []))]) (vRows f).length = (f.map fun l => wrote S l).map vW := by
  have e : (vRows f).length = f.length := List.length_map _
  rw [e, pre_map]
  apply List.ext_getElem
  · simp
  · intro i h1 h2
    simp at h1 h2
    simp [h2]
def spOneR (K : PySem.W.Frag) : Sp := fun vs H Q _ => ∃ (b : Addr) (m : Nat) (v : V) (S : Scr), vs = [.ref b, .int (m : Int), v] ∧ BarAt H b ∧ Dp K (del b H) v (dScr S) ∧ GoodS m S ∧ m ≤ 3 ∧ S.tab.length ≤ 3 ∧ ∀ H', Keep b H H' → BarAt H' b → Q (.bl true) H'
theorem ok_l_one_right (T : Txt K mg A) (U : Funs K A fd) : FnOkG P w K mg base 19 A.l_one_right fd.l_one_right p_l_one_right (spOneR K) := by
  have b_written := U.b_written
  have G_written := ok_written (P := P) (w := w) (base := base) T U
  have b_l_wrote := U.b_l_wrote
  have G_l_wrote := ok_l_wrote (P := P) (w := w) (base := base) T U
  have b_l_pick := U.b_l_pick
  have G_l_pick := ok_l_pick (P := P) (w := w) (base := base) T U
  have b_l_words := U.b_l_words
  have G_l_words := ok_l_words (P := P) (w := w) (base := base) T U
  have b_Reader_eq := U.b_Reader_eq
  have G_Reader_eq := ok_Reader_eq (P := P) (w := w) (base := base) T U
  have b_Writer_reader := U.b_Writer_reader
  have G_Writer_reader := ok_Writer_reader (P := P) (w := w) (base := base) T U
  have b_Reader_init := U.b_Reader_init
  have G_Reader_init := ok_Reader_init (P := P) (w := w) (base := base) T U
  have b_Writer_lasts := U.b_Writer_lasts
  have G_Writer_lasts := ok_Writer_lasts (P := P) (w := w) (base := base) T U
  have b_Writer_words := U.b_Writer_words
  have G_Writer_words := ok_Writer_words (P := P) (w := w) (base := base) T U
  have b_Writer_start := U.b_Writer_start
  have G_Writer_start := ok_Writer_start (P := P) (w := w) (base := base) T U
  have b_Writer_signs := U.b_Writer_signs
  have G_Writer_signs := ok_Writer_signs (P := P) (w := w) (base := base) T U
  have b_l_writer := U.b_l_writer
  have G_l_writer := ok_l_writer (P := P) (w := w) (base := base) T U
  have kb_written_0_row_writer := kb_written_0_row_writer_of (U.F_written)
  refine okG U.F_l_one_right sc_l_one_right (fun vs H Q E h => ?_) (fun cdv A0 outer s H vs Q E hg hr h => ?_)
  · obtain ⟨b, m, v, S, rfl, _⟩ := h
    rfl
  · have hu := hu_of hr
    obtain ⟨b, m, v, S, rfl, B, hdb, gs, m3, t3, k⟩ := h
    refine ⟨_, (pss_cons (ps_asg (pe_tup (pa_cons (pe_call G_l_writer (hr.mono (by decide)) (by rfl) T.m_l_writer T.k_l_writer b_l_writer .nil pass0 (pa_cons (pv 1) (pa_cons (pv 2) pa_nil))) (pa_cons (pv 2) pa_nil))) (w_tup (K := K) (n := 2) rfl (pgs_cons (pg_name (i := 3) sc_l_one_right.nd rfl (Or.inr rfl)) (pgs_cons (w_tup (K := K) (n := 4) rfl (pgs_cons (pg_name (i := 4) sc_l_one_right.nd rfl (Or.inl rfl)) (pgs_cons (pg_name (i := 5) sc_l_one_right.nd rfl (Or.inl rfl)) (pgs_cons (pg_name (i := 6) sc_l_one_right.nd rfl (Or.inl rfl)) (pgs_cons (pg_name (i := 7) sc_l_one_right.nd rfl (Or.inl rfl)) pgs_nil))))) pgs_nil))))
       (pss_cons (ps_set (i := 8) sc_l_one_right.nd rfl (Or.inl rfl) (pe_lst (pa_cons (pe_prop (pv 3) T.cl_Writer T.p_Writer_signs G_Writer_signs (hr.mono (by decide)) b_Writer_signs .nil pass0 rfl) (pa_cons (pe_prop (pv 3) T.cl_Writer T.p_Writer_start G_Writer_start (hr.mono (by decide)) b_Writer_start .nil pass0 rfl) (pa_cons (pe_prop (pv 3) T.cl_Writer T.p_Writer_words G_Writer_words (hr.mono (by decide)) b_Writer_words .nil pass0 rfl) (pa_cons (pe_prop (pv 3) T.cl_Writer T.p_Writer_lasts G_Writer_lasts (hr.mono (by decide)) b_Writer_lasts .nil pass0 rfl) pa_nil))))))
       (pss_cons (ps_if (PW.pt (pw_or (pt_cmpR op_ne (pe_callB (w_reprD (K := K) hg hr) (by rfl) T.b_repr (by decide +kernel) (pa_cons (pv 8) pa_nil)) (pe_callB (w_reprD (K := K) hg hr) (by rfl) T.b_repr (by decide +kernel) (pa_cons (pe_lst (pa_cons pe_int (pa_cons (pv 5) (pa_cons (pv 6) (pa_cons (pv 7) pa_nil))))) pa_nil)) (nomark _)) (pw_or1 (pt_cmpR (op_neO G_Reader_eq (hr.mono (by decide)) T.own_eq T.isf_eq T.own_ne T.t_mo b_Reader_eq pass0) (pe_prop (pv 3) T.cl_Writer T.p_Writer_reader G_Writer_reader (hr.mono (by decide)) b_Writer_reader .nil pass0 rfl) (pe_make T.mk_Reader G_Reader_init (hr.mono (by decide)) (by rfl) T.m_Reader b_Reader_init .nil pass0 (pa_cons (pv 1) (pa_cons (pe_ix (w_ixT (K := K)) (pv 4) pe_int (fun _ _ => rfl)) (pa_cons (pe_ix (w_ixT (K := K)) (pv 4) pe_int (fun _ _ => rfl)) pa_nil)))) (nomark _))))) (pss_one (ps_ret pe_bl)) pss_nil)
       (pss_cons (ps_set (i := 9) sc_l_one_right.nd rfl (Or.inl rfl) (pe_call G_l_words (hr.mono (by decide)) (by rfl) T.m_l_words T.k_l_words b_l_words .nil pass0 (pa_cons (pv 1) (pa_cons pe_int pa_nil))))
       (pss_cons (ps_if (pt_cmpR (w_neD (K := K) hr.units) (pe_lc (own := [("_law_row", 11)]) (g := gName 11) (tt := tYes) (by rfl) sc_l_one_right.nd (w_piL (K := K) (pv 9)) (blkOk_by (own := [("_law_row", 11)]) (by rfl)) (fun _ _ _ _ _ => (pg_name (i := 11) sc_l_one_right.nd rfl (Or.inl rfl))) (fun _ _ _ _ _ => pts_nil) (fun _ _ _ _ _ => (pe_call G_written (hr.mono (by decide)) (by rfl) T.m_written T.k_written b_written .nil pass0 (pa_cons (pv 3) (pa_cons (pv 11) pa_nil))))) (pe_lc (own := [("_law_row", 11)]) (g := gName 11) (tt := tYes) (by rfl) sc_l_one_right.nd (w_piL (K := K) (pv 9)) (blkOk_by (own := [("_law_row", 11)]) (by rfl)) (fun _ _ _ _ _ => (pg_name (i := 11) sc_l_one_right.nd rfl (Or.inl rfl))) (fun _ _ _ _ _ => pts_nil) (fun _ _ _ _ _ => (pe_call G_l_wrote (hr.mono (by decide)) (by rfl) T.m_l_wrote T.k_l_wrote b_l_wrote .nil pass0 (pa_cons (pv 2) (pa_cons (pv 11) pa_nil))))) (nomark _)) (pss_one (ps_ret pe_bl)) pss_nil)
       (pss_cons (ps_set (i := 10) sc_l_one_right.nd rfl (Or.inl rfl) (pe_join pe_str (pe_lc (own := [("_law_turn", 12)]) (g := gName 12) (tt := tYes) (by rfl) sc_l_one_right.nd (pi_range1 (by rfl) T.b_range (pa_cons (pe_call G_l_pick (hr.mono (by decide)) (by rfl) T.m_l_pick T.k_l_pick b_l_pick .nil pass0 (pa_cons (pv 0) (pa_cons (pe_lst (pa_cons pe_int (pa_cons pe_int (pa_cons pe_int pa_nil)))) pa_nil))) pa_nil)) (blkOk_by (own := [("_law_turn", 12)]) (by rfl)) (fun _ _ _ _ _ => (pg_name (i := 12) sc_l_one_right.nd rfl (Or.inl rfl))) (fun _ _ _ _ _ => pts_nil) (fun _ _ _ _ _ => (pe_call G_l_pick (hr.mono (by decide)) (by rfl) T.m_l_pick T.k_l_pick b_l_pick .nil pass0 (pa_cons (pv 0) (pa_cons (pe_slice sl_str pe_str po_none (po_some (pv 1))) pa_nil)))))))
       (pss_one (ps_ret (pe_cmpR op_eq (pe_callK0 G_written (hr.mono (by decide)) (by rfl) T.m_written T.k_written kb_written_0_row_writer pass0 (pk_cons (pv 10) (pk_cons (pv 3) pk_nil))) (pe_call G_l_wrote (hr.mono (by decide)) (by rfl) T.m_l_wrote T.k_l_wrote b_l_wrote .nil pass0 (pa_cons (pv 2) (pa_cons (pv 10) pa_nil))) (nomark _)))))))))), ?_⟩
    have hd := dp_mono (del_same b) _ _ hdb
    have m1 := gs.w1
    refine ⟨_, rfl, _, rfl, v, m, S, rfl, hd, gs, fun q H1 hq s1 W => ⟨_, rfl, by show 2 ≤ sizeLine; decide, fun T1 hT1 => ?_⟩⟩
    have sT := same_upd (o := .tup [.ref q, v]) hT1
    have hd2 := dp_mono (s1.trans sT) _ _ hd
    obtain ⟨a, at_, aw, al, xt, xe, rfl, hx, ht, h1, h2, h3, h4⟩ := (sc_at hd2).ob
    refine ⟨T1, _, rfl, tup_of upd_same, rfl, _, _, rfl, _, _, rfl, a, _, rfl, hx, rfl, _, _, rfl, _, _, rfl, _, _, rfl, _, _, rfl, rfl, rfl, ?_⟩
    have W2 := W.mono sT
    have k2 : Keep b H (upd H1 T1 (.tup [.ref q, .ref a])) := Keep.of (s1.trans sT)
    have B2 : BarAt (upd H1 T1 (.tup [.ref q, .ref a])) b := bar_same B (s1.trans sT)
    have s02 : Same H (upd H1 T1 (.tup [.ref q, .ref a])) := s1.trans sT
    generalize upd H1 T1 (.tup [.ref q, .ref a]) = H2 at hx ht h1 h2 h3 h4 W2 k2 B2 hd2 s02
    obtain ⟨dx, pr, aw', al', w1, w2, w3, w4⟩ := W2.ob
    refine ⟨_, rfl, q, dx, _, rfl, w1, q, dx, _, _, rfl, w1, wf_signs _ _ _ _ _, _, rfl, q, dx, _, rfl, w1, q, dx, _, _, rfl, w1, wf_start _ _ _ _ _, _, rfl, q, dx, _, rfl, w1, q, dx, _, _, rfl, w1, wf_words _ _ _ _ _, _, rfl, q, dx, _, rfl, w1, q, dx, _, _, rfl, w1, wf_lasts _ _ _ _ _, by show 4 ≤ sizeLine; decide, fun D hD => ?_⟩
    have sD := same_upd (o := .lst [.int ((2 : Nat) : Int), .str (rowS S.first), .ref aw', .ref al']) hD
    have dD : Dp K (upd H2 D (.lst [.int ((2 : Nat) : Int), .str (rowS S.first), .ref aw', .ref al'])) (.ref D) (dTold S) := .lst (lst_of upd_same) (.cons (.int _) (.cons (.str _) (.cons (dp_mono sD _ _ w3) (.cons (dp_mono sD _ _ w4) .nil))))
    have s03 : Same H (upd H2 D (.lst [.int ((2 : Nat) : Int), .str (rowS S.first), .ref aw', .ref al'])) := s02.trans sD
    generalize upd H2 D (.lst [.int ((2 : Nat) : Int), .str (rowS S.first), .ref aw', .ref al']) = H3 at sD dD s03
    have ab := told_able S
    have dp10 := told_dep S
    have shw := told_shown gs t3
    refine ⟨_, rfl, D, dTold S, rfl, dD, ab, dp10, shw, ?_⟩
    refine ⟨_, rfl, _, rfl, _, rfl, by show 4 ≤ sizeLine; decide, fun E2 hE2 => ?_⟩
    have sE := same_upd (o := .lst [.int 2, .str (rowS S.first), .ref aw, .ref al]) hE2
    have dE : Dp K (upd H3 E2 (.lst [.int 2, .str (rowS S.first), .ref aw, .ref al])) (.ref E2) (dTold S) := .lst (lst_of upd_same) (.cons (.int _) (.cons (.str _) (.cons (dp_mono (sD.trans sE) _ _ h3) (.cons (dp_mono (sD.trans sE) _ _ h4) .nil))))
    have s04 := s03.trans sE
    have s24 := sD.trans sE
    generalize upd H3 E2 (.lst [.int 2, .str (rowS S.first), .ref aw, .ref al]) = H4 at dE s04 s24
    refine ⟨E2, dTold S, rfl, dE, ab, dp10, shw, rfl, _, rfl, ?_⟩
    rw [decide_eq_true rfl]
    refine iteF ?_
    have w1' := s24 _ _ w1
    have ht4 := sqT_mono s24 ht
    refine ⟨_, rfl, q, dx, _, rfl, w1', q, dx, _, _, rfl, w1', wf_reader _ _ _ _ _, _, rfl, _, rfl, at_, _, _, _, rfl, rfl, ht4, rfl, _, rfl, at_, _, _, _, rfl, rfl, ht4, rfl, fun x dx2 hxn hdn hne => ?_⟩
    have s5 : Same H4 (upd (upd H4 dx2 (.own x)) x (.ins A.C dx2 [])) := same_new2 hxn hdn
    refine ⟨x, dx2, xt, xe, m, S.tab, S.ends, rfl, upd_same, dp_mono (s24.trans s5) _ _ h1, dp_mono (s24.trans s5) _ _ h2, gs.w1, gs.gt, gs.ge, fun H5 hk hx2 => ⟨rfl, ?_⟩⟩
    have s45 : Same H4 H5 := same_made hxn hdn hk
    have R1 : RdAt K A.C H5 x m S.tab S.ends := ⟨dx2, xt, xe, hx2, dp_mono (s24.trans s45) _ _ h1, dp_mono (s24.trans s45) _ _ h2⟩
    have R2 := (w2.mono (s24.trans s45))
    obtain ⟨dr, ar, er, r1, r2, r3⟩ := R2.ob
    refine ⟨pr, dr, _, rfl, r1, .inl ⟨x, A.C, dx2, _, rfl, hx2, T.nf_Reader⟩, pr, x, m, m, S.tab, S.tab, S.ends, S.ends, rfl, R2, R1, _, rfl, ?_⟩
    rw [eqR_same]
    refine ⟨_, rfl, iteF (g_next ?_)⟩
    have s05 := s04.trans s45
    refine ⟨_, rfl, m, rfl, m3, fun qr f H6 hqr s6 h6 rws f64 => ?_⟩
    have s06 := s05.trans s6
    have s26 := (s24.trans s45).trans s6
    have Wf : WrAt K A H6 q m 2 S := W2.mono s26
    dsimp only
    have lf : (vRows f).length = f.length := List.length_map _
    have rowg : ∀ {i : Nat} {x : V}, (vRows f)[i]? = some x → ∃ l, f.getD i [] = l ∧ x = .str (rowS l) ∧ l.length ≤ 3 ∧ ∀ g ∈ l, g < m := by
      intro i x hi
      obtain ⟨l, e, ex⟩ := vRows_get hi
      obtain ⟨a1, a2⟩ := rws l (List.mem_of_getElem? e)
      exact ⟨l, getD_some e, ex, a1, a2⟩
    refine g_seq (g_ifS (g_test (g_op ?_)))
    refine cL (xs := vRows f) (fun i => [vW (wrote S (f.getD i []))]) (fun R r => ⟨_, rfl, r⟩) (lst_of h6) (fun _ => Nat.le_refl 1) (by omega) (fun _ => rfl) (fun i x hi => turn_yes fun H7 R s7 r => ?_) (fun D1 H7 hD1 s7 h7 => ?_)
    · obtain ⟨l, el, rfl, l3, lm⟩ := rowg hi
      rw [el] at r
      exact ⟨_, rfl, _, rfl, q, m, 2, S, l, rfl, Wf.mono s7, gs, by omega, lm, fun H8 s8 => r H8 s8⟩
    · rw [wroteV] at h7
      have h6' := s7 _ _ h6
      refine cL (xs := vRows f) (fun i => [vW (wrote S (f.getD i []))]) (fun R r => ⟨_, rfl, r⟩) (lst_of h6') (fun _ => Nat.le_refl 1) (by omega) (fun _ => rfl) (fun i x hi => turn_yes fun H8 R s8 r => ?_) (fun D2 H8 hD2 s8 h8 => ?_)
      · obtain ⟨l, el, rfl, l3, lm⟩ := rowg hi
        rw [el] at r
        exact ⟨_, rfl, _, rfl, _, m, S, l, rfl, dp_mono ((s26.trans s7).trans s8) _ _ hd2, gs, by omega, lm, r H8 (Same.refl _)⟩
      · rw [wroteV] at h8
        have dd1 : Dp K H8 (.ref D1) (.list ((f.map fun l => wrote S l).map dW)) := .lst (lst_of (s8 _ _ h7)) (W_dps _)
        have dd2 : Dp K H8 (.ref D2) (.list ((f.map fun l => wrote S l).map dW)) := .lst (lst_of h8) (W_dps _)
        have sh := wlist_shaped gs rws
        rw [show (f.map fun l => dW (wrote S l)) = (f.map fun l => wrote S l).map dW by rw [List.map_map]; rfl] at sh
        refine ⟨_, _, dd1, dd2, sh, sh, _, rfl, ?_⟩
        rw [eqv_same sh]
        refine iteF (g_next ?_)
        have s08 := (s06.trans s7).trans s8
        have s28 := (s26.trans s7).trans s8
        have B8 := bar_same B s08
        have k8 : Keep b H H8 := Keep.of s08
        have Wf8 := W2.mono s28
        have W8 := wr_del B8 Wf8
        have hd8 : Dp K (del b H8) _ (dScr S) := dp_mono k8 _ _ hdb
        refine ⟨⟨_, rfl⟩, _, rfl, by show 3 ≤ sizeLine; decide, fun p3 hp3 => ?_⟩
        have n3 : p3 ≠ b := bar_ne B8 hp3
        have B9 := bar_upd (o := .lst [.int 5, .int 12, .int 200]) B8 n3
        refine ⟨b, _, rfl, B9, .inl ⟨p3, [.int 5, .int 12, .int 200], rfl, lst_of (by rw [del_ne n3]; exact upd_same), by decide, by decide, fun x H9 hx k9 B9 => ?_⟩⟩
        obtain ⟨size, hsz, rfl⟩ : ∃ m : Nat, m ≤ 200 ∧ x = .int (m : Int) := by
          simp at hx
          rcases hx with rfl | rfl | rfl
          · exact ⟨5, by decide, rfl⟩
          · exact ⟨12, by decide, rfl⟩
          · exact ⟨200, by decide, rfl⟩
        have k89 : Keep b H8 H9 := (Keep.of (same_upd hp3)).trans k9
        refine ⟨(size : Int), rfl, by omega, by omega, fun D hD => ?_⟩
        rw [Int.toNat_natCast]
        have neD : D ≠ b := bar_ne B9 hD
        refine lc_range (lo := 0) (n := size) (fun j H' => Keep b H9 H' ∧ BarAt H' b ∧ ∃ l : List Nat, H' D = some (.lst ((l.map sgn).map V.str)) ∧ l.length = j ∧ ∀ g ∈ l, g < m) ?_ ?_ ?_
        · exact ⟨Keep.of (same_upd hD), bar_upd B9 neD, [], upd_same, rfl, fun g h => by simp at h⟩
        · rintro j H6 hj ⟨k6, B6, l, hl6, hlen, hlt⟩
          refine ⟨rfl, yes_go ?_⟩
          refine ⟨_, rfl, _, rfl, (m : Int), rfl, _, rfl, szl (by decide +kernel), b, _, rfl, B6, .inr ⟨List.range m, by rw [cut_abc m m3], by rw [List.length_range]; omega, by rw [List.length_range]; omega, fun g H7 hg k7 B7 => ?_⟩⟩
          have hl7 := k7.get neD hl6
          refine ⟨_, hl7, szt (by simp; omega), keep_put (k6.trans k7) hD, bar_upd B7 neD, l ++ [g], ?_, by rw [List.length_append, hlen]; rfl, fun x hx => ?_⟩
          · rw [upd_same, List.map_append, List.map_append]
            rfl
          · rcases List.mem_append.mp hx with h | h
            · exact hlt x h
            · rw [List.mem_singleton.mp h]
              exact List.mem_range.mp hg
        · rintro H6 ⟨k6, B6, l, hl6, hlen, hlt⟩
          refine ⟨_, D, l.map sgn, rfl, rfl, .inl (lst_of hl6), ?_, ?_⟩
          · rw [sum_sgn]
            show _ + _ * 0 ≤ _
            omega
          rw [join_signs]
          have k86 := k89.trans k6
          refine ⟨_, rfl, _, rfl, q, m, 2, S, l, rfl, (W8.mono k86).mono (del_same b), gs, by omega, hlt, fun H7 s7 => ?_⟩
          refine ⟨_, rfl, _, rfl, _, m, S, l, rfl, dp_mono (Same.trans k86 ((del_same b).trans s7)) _ _ hd8, gs, by omega, hlt, scal_W _, ?_⟩
          rw [decide_eq_true rfl]
          exact k H7 ((k8.trans k86).trans (Keep.of s7)) (bar_same B6 s7)
end K6


set_option Elab.async false
set_option linter.all false
set_option maxRecDepth 100000
set_option maxHeartbeats 4000000
namespace K6
open PySem PySem.Spec PyProof.Rows L2 Rw
variable {P : Program} {w : World} {K : PySem.W.Frag} {mg : Str → Option Value} {base : Heap} {A : Ad} {fd : Fds}
theorem dec_strV (a b : Str) : decide (V.str a = V.str b) = (a == b) := by
  rw [Bool.eq_iff_iff]
  simp
theorem eqS_scr (m : Nat) (S S' : Scr) : eqS m m 2 2 S S' = PyData.eqv (dScr S) (dScr S') := by
  unfold eqS eqR dScr dThing
  simp only [PyData.eqv, PyData.eqvAll, Bool.and_true, decide_true, Bool.true_and]
  rw [dec_strV]
theorem scr_shaped {m : Nat} {S : Scr} (gs : GoodS m S) : SeqAt.shaped (dScr S) = true := by
  refine shaped_mk ?_ ?_
  · show (((dTab S.tab).canLay0 && ((dNats S.ends).canLay0 && true)) && ((PyData.str (rowS S.first)).canLay0 && ((dWords S.words).canLay0 && ((dOuts S.lasts).canLay0 && true)))) = true
    rw [tab_lay, nats_lay, lay_row S.first fun g hg => by have := gs.fst.lt g hg; omega, words_lay gs.wgood, outs_lay gs.lst.good]
    rfl
  · show max (max (dTab S.tab).depth (max (dNats S.ends).depth 0) + 1) (max 0 (max (dWords S.words).depth (max (dOuts S.lasts).depth 0))) + 1 ≤ 64
    have := tab_dep S.tab
    have := nats_dep S.ends
    have := words_dep S.words
    have := outs_dep S.lasts
    omega
theorem eqS_same {m n : Nat} {S : Scr} (gs : GoodS m S) : eqS m m n n S S = true := by
  unfold eqS
  rw [eqR_same, decide_eq_true rfl, decide_eq_true rfl, eqv_same (words_shaped gs.wgood), eqv_same (outs_shaped gs.lst.good)]
  rfl
theorem eqS_diff {m : Nat} {S : Scr} : eqS m m 3 2 S S = false := by
  unfold eqS
  rw [eqR_same, decide_eq_false (by intro h; injection h with h; omega)]
  rfl
def spEqR2 (K : PySem.W.Frag) : Sp := fun vs H Q _ => ∃ (m : Nat) (v v' : V) (S S' : Scr), vs = [.int (m : Int), v, v'] ∧ Dp K H v (dScr S) ∧ Dp K H v' (dScr S') ∧ GoodS m S ∧ GoodS m S' ∧ ∀ H', Same H H' → Q (.bl true) H'
theorem ok_l_equal_right (T : Txt K mg A) (U : Funs K A fd) : FnOk P w K mg base CX0 19 A.l_equal_right fd.l_equal_right p_l_equal_right (spEqR2 K) := by
  have b_Writer_eq := U.b_Writer_eq
  have G_Writer_eq := ok_Writer_eq (P := P) (w := w) (base := base) T U
  have b_Writer_init := U.b_Writer_init
  have G_Writer_init := ok_Writer_init (P := P) (w := w) (base := base) T U
  have b_Reader_init := U.b_Reader_init
  have G_Reader_init := ok_Reader_init (P := P) (w := w) (base := base) T U
  have b_l_writer := U.b_l_writer
  have G_l_writer := ok_l_writer (P := P) (w := w) (base := base) T U
  have kn_Writer_lasts_words_start_signs_reader := kn_Writer_lasts_words_start_signs_reader_of (U.F_Writer_init)
  refine U.F_l_equal_right.ok sc_l_equal_right (fun vs H Q E h => ?_) (fun cdv A0 outer s H vs Q E hr h => ?_)
  · obtain ⟨m, v, v', S, S', rfl, _⟩ := h
    rfl
  · have hu := hu_of hr
    obtain ⟨m, v, v', S, S', rfl, hd, hd', gs, gs', k⟩ := h
    refine ⟨_, (pss_cons (ps_par (i := 3) (j := 4) (by rfl) sc_l_equal_right.nd rfl rfl (by decide) rfl rfl (pa_cons (pe_call G_l_writer (hr.mono (by decide)) (by rfl) T.m_l_writer T.k_l_writer b_l_writer .nil pass0 (pa_cons (pv 0) (pa_cons (pv 1) pa_nil))) (pa_cons (pe_call G_l_writer (hr.mono (by decide)) (by rfl) T.m_l_writer T.k_l_writer b_l_writer .nil pass0 (pa_cons (pv 0) (pa_cons (pv 2) pa_nil))) pa_nil)) (by rfl))
       (pss_cons (ps_if (PW.pt (pw_or (pt_cmpR op_ne (pe_cmpR (op_eqO G_Writer_eq (hr.mono (by decide)) T.own_eq_Writer T.isf_eq_Writer b_Writer_eq pass0) (pv 3) (pv 4) (nomark _)) (pe_cmpR (w_eqD (K := K) hr.units) (pv 1) (pv 2) (nomark _)) (nomark _)) (pw_or1 (pt_cmpR op_ne (pe_cmpR (op_neO G_Writer_eq (hr.mono (by decide)) T.own_eq_Writer T.isf_eq_Writer T.own_ne_Writer T.t_mo_Writer b_Writer_eq pass0) (pv 3) (pv 4) (nomark _)) (pe_cmpR (w_neD (K := K) hr.units) (pv 1) (pv 2) (nomark _)) (nomark _))))) (pss_one (ps_ret pe_bl)) pss_nil)
       (pss_cons (ps_asg (pv 1) (w_tup (K := K) (n := 4) rfl (pgs_cons (pg_name (i := 5) sc_l_equal_right.nd rfl (Or.inl rfl)) (pgs_cons (pg_name (i := 6) sc_l_equal_right.nd rfl (Or.inl rfl)) (pgs_cons (pg_name (i := 7) sc_l_equal_right.nd rfl (Or.inl rfl)) (pgs_cons (pg_name (i := 8) sc_l_equal_right.nd rfl (Or.inl rfl)) pgs_nil))))))
       (pss_cons (ps_set (i := 9) sc_l_equal_right.nd rfl (Or.inl rfl) (pe_make T.mk_Reader G_Reader_init (hr.mono (by decide)) (by rfl) T.m_Reader b_Reader_init .nil pass0 (pa_cons (pv 0) (pa_cons (pe_ix (w_ixT (K := K)) (pv 5) pe_int (fun _ _ => rfl)) (pa_cons (pe_ix (w_ixT (K := K)) (pv 5) pe_int (fun _ _ => rfl)) pa_nil)))))
       (pss_cons (ps_set (i := 10) sc_l_equal_right.nd rfl (Or.inl rfl) (pe_makeK0 T.mk_Writer G_Writer_init (hr.mono (by decide)) (by rfl) T.m_Writer kn_Writer_lasts_words_start_signs_reader pass0 (pk_cons (pv 8) (pk_cons (pv 7) (pk_cons (pv 6) (pk_cons pe_int (pk_cons (pv 9) pk_nil)))))))
       (pss_cons (ps_set (i := 11) sc_l_equal_right.nd rfl (Or.inl rfl) (pe_make T.mk_Writer G_Writer_init (hr.mono (by decide)) (by rfl) T.m_Writer b_Writer_init .nil pass0 (pa_cons (pv 9) (pa_cons pe_int (pa_cons (pv 6) (pa_cons (pv 7) (pa_cons (pv 8) pa_nil)))))))
       (pss_one (ps_ret (pe_and (pe_cmpR (op_eqO G_Writer_eq (hr.mono (by decide)) T.own_eq_Writer T.isf_eq_Writer b_Writer_eq pass0) (pv 10) (pv 3) (nomark _)) (pe_and (pe_cmpR (op_neO G_Writer_eq (hr.mono (by decide)) T.own_eq_Writer T.isf_eq_Writer T.own_ne_Writer T.t_mo_Writer b_Writer_eq pass0) (pv 11) (pv 3) (nomark _)) (pe_and (pe_cmpR (op_neO G_Writer_eq (hr.mono (by decide)) T.own_eq_Writer T.isf_eq_Writer T.own_ne_Writer T.t_mo_Writer b_Writer_eq pass0) (pv 3) (pv 9) (nomark _)) (pe_and (pe_cmpR (op_neO G_Writer_eq (hr.mono (by decide)) T.own_eq_Writer T.isf_eq_Writer T.own_ne_Writer T.t_mo_Writer b_Writer_eq pass0) (pv 3) (pv 1) (nomark _)) (pe_one (pe_callTy (call_boolO T.nb_Writer T.nl_Writer) (by rfl) T.b_bool (by decide +kernel) (pa_cons (pv 3) pa_nil))))))))))))))), ?_⟩
    refine ⟨_, rfl, _, rfl, v, m, S, rfl, hd, gs, fun q H1 hq s1 W => ?_⟩
    refine ⟨_, rfl, _, rfl, v', m, S', rfl, dp_mono s1 _ _ hd', gs', fun q' H2 hq' s2 W' => ⟨_, _, rfl, ?_⟩⟩
    have W := W.mono s2
    have s02 := s1.trans s2
    have hd := dp_mono s02 _ _ hd
    have hd' := dp_mono s02 _ _ hd'
    obtain ⟨dx, pr, aw, al, w1, _⟩ := W.ob
    obtain ⟨dx', pr', aw', al', w1', _⟩ := W'.ob
    have bes : Beside K A.C_Writer (.ref q') H2 := .inl ⟨q', A.C_Writer, dx', _, rfl, w1', T.nf_Writer_Writer⟩
    refine ⟨_, rfl, _, rfl, q, dx, _, rfl, w1, bes, q, m, 2, S, .ref q', rfl, W, gs, .inl ⟨q', m, 2, S', rfl, W', gs', _, rfl, ?_⟩⟩
    refine ⟨_, rfl, _, rfl, _, _, hd, hd', scr_shaped gs, scr_shaped gs', rfl, _, rfl, ?_⟩
    rw [if_neg Bool.false_ne_true, eqS_scr, decide_eq_true rfl]
    refine iteF ?_
    refine ⟨_, rfl, _, rfl, q, dx, _, rfl, w1, bes, q, m, 2, S, .ref q', rfl, W, gs, .inl ⟨q', m, 2, S', rfl, W', gs', _, rfl, ?_⟩⟩
    refine ⟨_, rfl, _, rfl, _, _, hd, hd', scr_shaped gs, scr_shaped gs', rfl, _, rfl, ?_⟩
    rw [if_pos rfl, eqS_scr, decide_eq_true rfl]
    refine iteF (g_next ?_)
    obtain ⟨a, at_, bw, bl, xt, xe, rfl, hx, ht, h1, h2, h3, h4⟩ := (sc_at hd).ob
    refine ⟨_, rfl, a, _, rfl, hx, rfl, _, _, rfl, _, _, rfl, _, _, rfl, _, _, rfl, rfl, ?_⟩
    refine ⟨_, rfl, _, rfl, at_, _, _, _, rfl, rfl, ht, rfl, _, rfl, at_, _, _, _, rfl, rfl, ht, rfl, fun x dr hxn hdn hne => ?_⟩
    have s3 : Same H2 (upd (upd H2 dr (.own x)) x (.ins A.C dr [])) := same_new2 hxn hdn
    refine ⟨x, dr, xt, xe, m, S.tab, S.ends, rfl, upd_same, dp_mono s3 _ _ h1, dp_mono s3 _ _ h2, gs.w1, gs.gt, gs.ge, fun H3 hk hx3 => ⟨rfl, ?_⟩⟩
    have s23 : Same H2 H3 := same_made hxn hdn hk
    have R3 : RdAt K A.C H3 x m S.tab S.ends := ⟨dr, xt, xe, hx3, dp_mono s23 _ _ h1, dp_mono s23 _ _ h2⟩
    refine ⟨_, rfl, _, rfl, _, rfl, _, rfl, rfl, rfl, fun y dy hyn hdyn hney => ?_⟩
    have s4 : Same H3 (upd (upd H3 dy (.own y)) y (.ins A.C_Writer dy [])) := same_new2 hyn hdyn
    refine ⟨y, dy, x, bw, bl, m, 2, S, rfl, upd_same, R3.mono s4, dp_mono (s23.trans s4) _ _ h3, dp_mono (s23.trans s4) _ _ h4, gs, by decide, by decide, fun H4 hk4 hy4 => ⟨rfl, ?_⟩⟩
    have s34 : Same H3 H4 := same_made hyn hdyn hk4
    have s24 := s23.trans s34
    have Wy : WrAt K A H4 y m 2 S := ⟨dy, x, bw, bl, hy4, R3.mono s34, dp_mono s24 _ _ h3, dp_mono s24 _ _ h4⟩
    refine ⟨_, rfl, _, rfl, _, rfl, _, rfl, fun z dz hzn hdzn hnez => ?_⟩
    have s5 : Same H4 (upd (upd H4 dz (.own z)) z (.ins A.C_Writer dz [])) := same_new2 hzn hdzn
    refine ⟨z, dz, x, bw, bl, m, 3, S, rfl, upd_same, (R3.mono s34).mono s5, dp_mono (s24.trans s5) _ _ h3, dp_mono (s24.trans s5) _ _ h4, gs, by decide, by decide, fun H5 hk5 hz5 => ⟨rfl, ?_⟩⟩
    have s45 : Same H4 H5 := same_made hzn hdzn hk5
    have s25 := s24.trans s45
    have Wz : WrAt K A H5 z m 3 S := ⟨dz, x, bw, bl, hz5, (R3.mono s34).mono s45, dp_mono s25 _ _ h3, dp_mono s25 _ _ h4⟩
    have Wy := Wy.mono s45
    have Wq := W.mono s25
    have hy5 := s45 _ _ hy4
    have hq5 := s25 _ _ w1
    have R5 := (R3.mono s34).mono s45
    have hx5 := sqT_mono s25 hx
    have hx3' := (s34.trans s45) _ _ hx3
    refine ⟨_, rfl, _, rfl, y, dy, _, rfl, hy5, .inl ⟨q, A.C_Writer, dx, _, rfl, hq5, T.nf_Writer_Writer⟩, y, m, 2, S, .ref q, rfl, Wy, gs, .inl ⟨q, m, 2, S, rfl, Wq, gs, _, rfl, _, rfl, ?_⟩⟩
    rw [if_neg Bool.false_ne_true, eqS_same gs]
    refine iteT ?_
    refine ⟨_, rfl, _, rfl, z, dz, _, rfl, hz5, .inl ⟨q, A.C_Writer, dx, _, rfl, hq5, T.nf_Writer_Writer⟩, z, m, 3, S, .ref q, rfl, Wz, gs, .inl ⟨q, m, 2, S, rfl, Wq, gs, _, rfl, _, rfl, ?_⟩⟩
    rw [if_pos rfl, eqS_diff]
    refine iteT ?_
    refine ⟨_, rfl, _, rfl, q, dx, _, rfl, hq5, .inl ⟨x, A.C, dr, _, rfl, hx3', T.nf_Writer_Reader⟩, q, m, 2, S, .ref x, rfl, Wq, gs, .inr (.inl ⟨x, m, S.tab, S.ends, rfl, R5, _, rfl, _, rfl, ?_⟩)⟩
    refine iteT ?_
    refine ⟨_, rfl, _, rfl, q, dx, _, rfl, hq5, .inr ⟨a, _, rfl, hx5, T.nf_Writer_tuple⟩, q, m, 2, S, .ref a, rfl, Wq, gs, .inr (.inr ⟨a, _, rfl, hx5, _, rfl, _, rfl, ?_⟩)⟩
    refine iteT ?_
    exact ⟨_, rfl, q, dx, _, rfl, hq5, k H5 (s02.trans s25)⟩
def spRight : Sp := fun vs H Q _ => ∃ b : Addr, vs = [.ref b] ∧ BarAt H b ∧ ∀ H', Keep b H H' → BarAt H' b → Q (.bl true) H'
theorem ok_l_right (T : Txt K mg A) (U : Funs K A fd) : FnOkG P w K mg base 22 A.l_right fd.l_right p_l_right (spRight) := by
  have b_l_equal_right := U.b_l_equal_right
  have G_l_equal_right := ok_l_equal_right (P := P) (w := w) (base := base) T U
  have b_l_one_right := U.b_l_one_right
  have G_l_one_right := ok_l_one_right (P := P) (w := w) (base := base) T U
  have b_l_pour := U.b_l_pour
  have G_l_pour := ok_l_pour (P := P) (w := w) (base := base) T U
  have b_l_scribe := U.b_l_scribe
  have G_l_scribe := ok_l_scribe (P := P) (w := w) (base := base) T U
  have b_l_pick := U.b_l_pick
  have G_l_pick := ok_l_pick (P := P) (w := w) (base := base) T U
  refine okG U.F_l_right sc_l_right (fun vs H Q E h => ?_) (fun cdv A0 outer s H vs Q E hg hr h => ?_)
  · obtain ⟨b, rfl, _⟩ := h
    rfl
  · have hu := hu_of hr
    obtain ⟨b, rfl, B, k⟩ := h
    refine ⟨_, (pss_cons (ps_for PassesOwn.never rfl (pi_range1 (by rfl) T.b_range (pa_cons pe_int pa_nil)) (pg_name (i := 1) sc_l_right.nd rfl (Or.inl rfl))
       (pss_cons (ps_set (i := 2) sc_l_right.nd rfl (Or.inl rfl) (pe_call G_l_pick (hr.mono (by decide)) (by rfl) T.m_l_pick T.k_l_pick b_l_pick .nil pass0 (pa_cons (pv 0) (pa_cons (pe_lst (pa_cons pe_int (pa_cons pe_int (pa_cons pe_int (pa_cons pe_int pa_nil))))) pa_nil))))
       (pss_cons (ps_par (i := 3) (j := 4) (by rfl) sc_l_right.nd rfl rfl (by decide) rfl rfl (pa_cons (pe_call G_l_scribe (hr.mono (by decide)) (by rfl) T.m_l_scribe T.k_l_scribe b_l_scribe .nil pass0 (pa_cons (pv 0) (pa_cons (pv 2) (pa_cons pe_int (pa_cons pe_int pa_nil))))) (pa_cons (pe_call G_l_scribe (hr.mono (by decide)) (by rfl) T.m_l_scribe T.k_l_scribe b_l_scribe .nil pass0 (pa_cons (pv 0) (pa_cons (pv 2) (pa_cons pe_int (pa_cons pe_int pa_nil))))) pa_nil)) (by rfl))
       (pss_cons (ps_set (i := 4) sc_l_right.nd rfl (Or.inl rfl) (pe_ifExp (pt_cmpR op_eq (pe_call G_l_pour (hr.mono (by decide)) (by rfl) T.m_l_pour T.k_l_pour b_l_pour .nil pass0 (pa_cons (pv 0) (pa_cons pe_int pa_nil))) pe_int (nomark _)) (pv 3) (pv 4)))
       (pss_one (ps_if (PW.pt (pw_or (pt_not (pt_val (pe_callG G_l_one_right hg (hr.mono (by decide)) (by rfl) T.m_l_one_right T.k_l_one_right b_l_one_right (pa_cons (pv 0) (pa_cons (pv 2) (pa_cons (pv 3) pa_nil)))))) (pw_or1 (pt_not (pt_val (pe_call G_l_equal_right (hr.mono (by decide)) (by rfl) T.m_l_equal_right T.k_l_equal_right b_l_equal_right .nil pass0 (pa_cons (pv 2) (pa_cons (pv 3) (pa_cons (pv 4) pa_nil))))))))) (pss_one (ps_ret pe_bl)) pss_nil))))))
       (pss_one (ps_ret pe_bl))), ?_⟩
    refine ⟨3, rfl, by omega, by omega, ?_⟩
    refine for_range (lo := 0) (n := 3) (fun i σ H' => ∃ y1 y2 y3 y4, σ = [some (.ref b), y1, y2, y3, y4] ∧ Keep b H H' ∧ BarAt H' b) ?_ ?_ ?_
    · exact ⟨none, none, none, none, rfl, Keep.refl _ _, B⟩
    · rintro i σ H0 hi ⟨y1, y2, y3, y4, rfl, k0, B0⟩
      refine ⟨_, rfl, by show 4 ≤ sizeLine; decide, fun m hm => ?_⟩
      have nem : m ≠ b := bar_ne B0 hm
      have Bm := bar_upd (o := .lst [.int 2, .int 2, .int 1, .int 3]) B0 nem
      refine ⟨b, _, rfl, Bm, .inl ⟨m, [.int 2, .int 2, .int 1, .int 3], rfl, lst_of (by rw [del_ne nem]; exact upd_same), by decide, by decide, fun x H1 hx kp1 B1 => ?_⟩⟩
      obtain ⟨n, n1, n3, rfl⟩ : ∃ n : Nat, 1 ≤ n ∧ n ≤ 3 ∧ x = .int (n : Int) := by
        simp at hx
        rcases hx with rfl | rfl | rfl
        · exact ⟨2, by decide, by decide, rfl⟩
        · exact ⟨1, by decide, by decide, rfl⟩
        · exact ⟨3, by decide, by decide, rfl⟩
      have k1 : Keep b H H1 := k0.trans ((Keep.of (same_upd hm)).trans kp1)
      refine ⟨_, rfl, _, rfl, b, n, rfl, B1, n1, by omega, fun p S H2 dp gs l3 kp2 B2 => ?_⟩
      refine ⟨_, rfl, _, rfl, b, n, rfl, B2, n1, by omega, fun p' S' H3 dp' gs' l3' kp3 B3 => ⟨_, _, rfl, ?_⟩⟩
      have dp3 := dp_mono kp3 _ _ dp
      have k3 := (k1.trans kp2).trans kp3
      dsimp only
      refine g_seq (g_asg (g_viaP (fun v H2 => Keep b H3 H2 ∧ BarAt H2 b ∧ ∃ S2, Dp K (del b H3) v (dScr S2) ∧ GoodS n S2) (fun Q' rest => ?_) ?_))
      · refine ⟨_, rfl, b, 3, rfl, B3, by decide, by decide, fun r1 H4 _ k4 B4 => ⟨rfl, _, rfl, ?_⟩⟩
        by_cases c : decide (V.int (r1 : Int) = V.int 0) = true
        · rw [c]
          exact iteT ⟨_, rfl, rest _ H4 ⟨k4, B4, S, dp3, gs⟩⟩
        · rw [Bool.eq_false_iff.mpr c]
          exact iteF ⟨_, rfl, rest _ H4 ⟨k4, B4, S', dp', gs'⟩⟩
      · rintro v4 H4 ⟨k4, B4, S2, dv, gs2⟩
        refine ⟨_, rfl, _, rfl, _, rfl, b, n, _, S, rfl, B4, dp_mono k4 _ _ dp3, gs, n3, l3, fun H5 k5 B5 => ⟨_, rfl, iteF ?_⟩⟩
        have d5 := dp_mono (Same.trans (Same.trans k4 k5) (del_same b)) _ _ dp3
        have d5' := dp_mono (Same.trans (Same.trans k4 k5) (del_same b)) _ _ dv
        refine ⟨_, rfl, _, rfl, _, rfl, n, _, _, S, S2, rfl, d5, d5', gs, gs2, fun H6 s6 => ⟨_, rfl, iteF (g_next ?_)⟩⟩
        exact ⟨_, _, _, _, rfl, ((k3.trans k4).trans k5).trans (Keep.of s6), bar_same B5 s6⟩
    · rintro σ H0 ⟨y1, y2, y3, y4, rfl, k0, B0⟩
      exact k H0 k0 B0
def spLaw (K : PySem.W.Frag) : Sp := fun vs H Q _ => ∃ (a : Addr) (ns : List Int), vs = [.ref a] ∧ SqL K H a (ns.map V.int) ∧ ns.length ≤ 63 ∧ ∀ H', Q (.bl true) H'
theorem ok_law (T : Txt K mg A) (U : Funs K A fd) : FnOkG P w K mg base 25 A.law fd.law p_law (spLaw K) := by
  have b_l_right := U.b_l_right
  have G_l_right := ok_l_right (P := P) (w := w) (base := base) T U
  have b_l_flask := U.b_l_flask
  have G_l_flask := ok_l_flask (P := P) (w := w) (base := base) T U
  refine okG U.F_law sc_law (fun vs H Q E h => ?_) (fun cdv A0 outer s H vs Q E hg hr h => ?_)
  · obtain ⟨a, ns, rfl, _⟩ := h
    rfl
  · have hu := hu_of hr
    obtain ⟨a, ns, rfl, hS, hn, k⟩ := h
    refine ⟨_, (pss_one (ps_ret (pe_callB (w_all (K := K) rfl) (by rfl) T.b_all (by decide +kernel) (pa_cons (pe_lc (own := [("_law_k", 1)]) (g := gName 1) (tt := tYes) (by rfl) sc_law.nd (pi_range1 (by rfl) T.b_range (pa_cons (pe_callB (call_max2 rfl) (by rfl) T.b_max (by decide +kernel) (pa_cons pe_int (pa_cons (pe_callB (call_min2 rfl) (by rfl) T.b_min (by decide +kernel) (pa_cons (pe_callB (w_len (K := K)) (by rfl) T.b_len (by decide +kernel) (pa_cons (pv 0) pa_nil)) (pa_cons pe_int pa_nil))) pa_nil))) pa_nil)) (blkOk_by (own := [("_law_k", 1)]) (by rfl)) (fun _ _ _ _ _ => (pg_name (i := 1) sc_law.nd rfl (Or.inl rfl))) (fun _ _ _ _ _ => pts_nil) (fun _ _ _ _ _ => (pe_callG G_l_right hg (hr.mono (by decide)) (by rfl) T.m_l_right T.k_l_right b_l_right (pa_cons (pe_call G_l_flask (hr.mono (by decide)) (by rfl) T.m_l_flask T.k_l_flask b_l_flask .nil pass0 (pa_cons (pv 0) (pa_cons (pv 1) pa_nil))) pa_nil)))) pa_nil)))), ?_⟩
    refine ⟨_, rfl, _, _, rfl, .inl ⟨_, hS, rfl⟩, _, _, rfl, _, _, rfl, ?_⟩
    obtain ⟨m, hm, em⟩ : ∃ m : Nat, m ≤ 5 ∧ (if (if (3 : Int) < ((ns.map V.int).length : Int) then (3 : Int) else ((ns.map V.int).length : Int)) > 2 then (if (3 : Int) < ((ns.map V.int).length : Int) then (3 : Int) else ((ns.map V.int).length : Int)) else 2) = (m : Int) := by
      by_cases c : (3 : Int) < ((ns.map V.int).length : Int)
      · exact ⟨3, by decide, by rw [if_pos c]; rfl⟩
      · rw [if_neg c]
        by_cases c2 : ((ns.map V.int).length : Int) > 2
        · exact ⟨(ns.map V.int).length, by omega, if_pos c2⟩
        · exact ⟨2, by decide, if_neg c2⟩
    refine ⟨(m : Int), by rw [← em] <;> rfl, by omega, by omega, fun D hD => ?_⟩
    rw [Int.toNat_natCast]
    refine lc_range (lo := 0) (n := m) (fun i H' => Same H H' ∧ H' D = some (.lst (List.replicate i (.bl true)))) ?_ ?_ ?_
    · exact ⟨same_upd hD, upd_same⟩
    · rintro i H1 hi ⟨s1, h1⟩
      refine ⟨rfl, yes_go ?_⟩
      rw [show (0 : Int) + (i : Int) = (i : Int) by omega]
      refine ⟨_, rfl, _, rfl, a, ns, i, rfl, sqL_mono s1 hS, hn, by omega, fun b H2 hb s2 B2 => ?_⟩
      refine ⟨b, rfl, B2, fun H3 kp _ => ?_⟩
      have s3 : Same H1 H3 := fun x o hx => kp.get (ne_of_none hx hb) (s2 _ _ hx)
      refine ⟨_, s3 _ _ h1, szt (by rw [List.length_replicate]; omega), same_put (s1.trans s3) hD, ?_⟩
      rw [upd_same, List.replicate_succ']
    · rintro H1 ⟨s1, h1⟩
      refine ⟨D, List.replicate m true, rfl, lst_of (by rw [← bls]; exact h1), ?_⟩
      rw [all_true]
      exact k H1
end K6


set_option Elab.async false
set_option linter.all false
set_option maxRecDepth 100000
set_option maxHeartbeats 4000000
namespace K6
open PySem PySem.Spec PyProof.Rows L2 Rw
/-! ### what the top has written -/
theorem all_mk {P : Program} {w : World} {K : PySem.W.Frag} {h : Heap} {mg : Str → Option Value} {fa C C_Writer g_Reader_arrows g_Reader_ends g_Reader_eq g_Reader_init g_Reader_len g_Reader_signs g_Writer_eq g_Writer_init g_Writer_lasts g_Writer_reader g_Writer_signs g_Writer_start g_Writer_words g_check_reader g_check_row g_check_signs g_check_writer g_end_flags g_flags_of g_is_arrows g_is_ascending g_is_between g_is_goals g_is_integer g_is_output g_is_row g_is_stands g_is_words g_l_equal_right g_l_flask g_l_one_right g_l_pick g_l_pour g_l_right g_l_scribe g_l_thing g_l_word g_l_words g_l_writer g_l_wrote g_law g_written pp_Reader_arrows pp_Reader_ends pp_Reader_signs pp_Writer_lasts pp_Writer_reader pp_Writer_signs pp_Writer_start pp_Writer_words : Addr} (X : K.In h) (G : h.Ns mainGlobals mg) (hfa : mg "law" = some (.ref fa))
    {q_Reader_signs : List Value}
    {q_Reader_arrows : List Value}
    {q_Reader_ends : List Value}
    {q_Writer_reader : List Value}
    {q_Writer_signs : List Value}
    {q_Writer_start : List Value}
    {q_Writer_words : List Value}
    {q_Writer_lasts : List Value}
    {od0 an0 : Option Addr} {sl0 : Array (Option Value)} {oc0 kV0 dc0 pm0 cd0 ct0 : Value}
    {od1 an1 : Option Addr} {sl1 : Array (Option Value)} {oc1 kV1 dc1 pm1 cd1 ct1 : Value}
    {od2 an2 : Option Addr} {sl2 : Array (Option Value)} {oc2 kV2 dc2 pm2 cd2 ct2 : Value}
    {od3 an3 : Option Addr} {sl3 : Array (Option Value)} {oc3 kV3 dc3 pm3 cd3 ct3 : Value}
    {od4 an4 : Option Addr} {sl4 : Array (Option Value)} {oc4 kV4 dc4 pm4 cd4 ct4 : Value}
    {od5 an5 : Option Addr} {sl5 : Array (Option Value)} {oc5 kV5 dc5 pm5 cd5 ct5 : Value}
    {od6 an6 : Option Addr} {sl6 : Array (Option Value)} {oc6 kV6 dc6 pm6 cd6 ct6 : Value}
    {od7 an7 : Option Addr} {sl7 : Array (Option Value)} {oc7 kV7 dc7 pm7 cd7 ct7 : Value}
    {od8 an8 : Option Addr} {sl8 : Array (Option Value)} {oc8 kV8 dc8 pm8 cd8 ct8 : Value}
    {od9 an9 : Option Addr} {sl9 : Array (Option Value)} {oc9 kV9 dc9 pm9 cd9 ct9 : Value}
    {od10 an10 : Option Addr} {sl10 : Array (Option Value)} {oc10 kV10 dc10 pm10 cd10 ct10 : Value}
    {od11 an11 : Option Addr} {sl11 : Array (Option Value)} {oc11 kV11 dc11 pm11 cd11 ct11 : Value}
    {od12 an12 : Option Addr} {sl12 : Array (Option Value)} {oc12 kV12 dc12 pm12 cd12 ct12 : Value}
    {od13 an13 : Option Addr} {sl13 : Array (Option Value)} {oc13 kV13 dc13 pm13 cd13 ct13 : Value}
    {od14 an14 : Option Addr} {sl14 : Array (Option Value)} {oc14 kV14 dc14 pm14 cd14 ct14 : Value}
    {od15 an15 : Option Addr} {sl15 : Array (Option Value)} {oc15 kV15 dc15 pm15 cd15 ct15 : Value}
    {od16 an16 : Option Addr} {sl16 : Array (Option Value)} {oc16 kV16 dc16 pm16 cd16 ct16 : Value}
    {od17 an17 : Option Addr} {sl17 : Array (Option Value)} {oc17 kV17 dc17 pm17 cd17 ct17 : Value}
    {od18 an18 : Option Addr} {sl18 : Array (Option Value)} {oc18 kV18 dc18 pm18 cd18 ct18 : Value}
    {od19 an19 : Option Addr} {sl19 : Array (Option Value)} {oc19 kV19 dc19 pm19 cd19 ct19 : Value}
    {od20 an20 : Option Addr} {sl20 : Array (Option Value)} {oc20 kV20 dc20 pm20 cd20 ct20 : Value}
    {od21 an21 : Option Addr} {sl21 : Array (Option Value)} {oc21 kV21 dc21 pm21 cd21 ct21 : Value}
    {od22 an22 : Option Addr} {sl22 : Array (Option Value)} {oc22 kV22 dc22 pm22 cd22 ct22 : Value}
    {od23 an23 : Option Addr} {sl23 : Array (Option Value)} {oc23 kV23 dc23 pm23 cd23 ct23 : Value}
    {od24 an24 : Option Addr} {sl24 : Array (Option Value)} {oc24 kV24 dc24 pm24 cd24 ct24 : Value}
    {od25 an25 : Option Addr} {sl25 : Array (Option Value)} {oc25 kV25 dc25 pm25 cd25 ct25 : Value}
    {od26 an26 : Option Addr} {sl26 : Array (Option Value)} {oc26 kV26 dc26 pm26 cd26 ct26 : Value}
    {od27 an27 : Option Addr} {sl27 : Array (Option Value)} {oc27 kV27 dc27 pm27 cd27 ct27 : Value}
    {od28 an28 : Option Addr} {sl28 : Array (Option Value)} {oc28 kV28 dc28 pm28 cd28 ct28 : Value}
    {od29 an29 : Option Addr} {sl29 : Array (Option Value)} {oc29 kV29 dc29 pm29 cd29 ct29 : Value}
    {od30 an30 : Option Addr} {sl30 : Array (Option Value)} {oc30 kV30 dc30 pm30 cd30 ct30 : Value}
    {od31 an31 : Option Addr} {sl31 : Array (Option Value)} {oc31 kV31 dc31 pm31 cd31 ct31 : Value}
    {od32 an32 : Option Addr} {sl32 : Array (Option Value)} {oc32 kV32 dc32 pm32 cd32 ct32 : Value}
    {od33 an33 : Option Addr} {sl33 : Array (Option Value)} {oc33 kV33 dc33 pm33 cd33 ct33 : Value}
    {od34 an34 : Option Addr} {sl34 : Array (Option Value)} {oc34 kV34 dc34 pm34 cd34 ct34 : Value}
    {od35 an35 : Option Addr} {sl35 : Array (Option Value)} {oc35 kV35 dc35 pm35 cd35 ct35 : Value}
    {od36 an36 : Option Addr} {sl36 : Array (Option Value)} {oc36 kV36 dc36 pm36 cd36 ct36 : Value}
    {od37 an37 : Option Addr} {sl37 : Array (Option Value)} {oc37 kV37 dc37 pm37 cd37 ct37 : Value}
    {od38 an38 : Option Addr} {sl38 : Array (Option Value)} {oc38 kV38 dc38 pm38 cd38 ct38 : Value}
    {od39 an39 : Option Addr} {sl39 : Array (Option Value)} {oc39 kV39 dc39 pm39 cd39 ct39 : Value}
    {od40 an40 : Option Addr} {sl40 : Array (Option Value)} {oc40 kV40 dc40 pm40 cd40 ct40 : Value}
    {od41 an41 : Option Addr} {sl41 : Array (Option Value)} {oc41 kV41 dc41 pm41 cd41 ct41 : Value}
    {tc_ALPHABET tc_MOST_ROW tc_MOST_SIGNS tc_MOST_STANDS tc_MOST_WORD : Tok}
    (aC : PySem.W.nsIn K mainGlobals "Reader" = some (some (.ref C)))
    (aC_Writer : PySem.W.nsIn K mainGlobals "Writer" = some (some (.ref C_Writer)))
    (a_is_integer : PySem.W.nsIn K mainGlobals "is_integer" = some (some (.ref g_is_integer)))
    (a_is_between : PySem.W.nsIn K mainGlobals "is_between" = some (some (.ref g_is_between)))
    (a_is_row : PySem.W.nsIn K mainGlobals "is_row" = some (some (.ref g_is_row)))
    (a_is_ascending : PySem.W.nsIn K mainGlobals "is_ascending" = some (some (.ref g_is_ascending)))
    (a_is_stands : PySem.W.nsIn K mainGlobals "is_stands" = some (some (.ref g_is_stands)))
    (a_is_arrows : PySem.W.nsIn K mainGlobals "is_arrows" = some (some (.ref g_is_arrows)))
    (a_is_goals : PySem.W.nsIn K mainGlobals "is_goals" = some (some (.ref g_is_goals)))
    (a_check_signs : PySem.W.nsIn K mainGlobals "check_signs" = some (some (.ref g_check_signs)))
    (a_check_row : PySem.W.nsIn K mainGlobals "check_row" = some (some (.ref g_check_row)))
    (a_flags_of : PySem.W.nsIn K mainGlobals "flags_of" = some (some (.ref g_flags_of)))
    (a_Reader_init : PySem.W.findIn K (.ref C) "__init__" = some (some (.ref g_Reader_init)))
    (j_Reader_init : PySem.W.isFn K (.ref g_Reader_init) = true)
    (a_Reader_len : PySem.W.findIn K (.ref C) "__len__" = some (some (.ref g_Reader_len)))
    (j_Reader_len : PySem.W.isFn K (.ref g_Reader_len) = true)
    (a_Reader_eq : PySem.W.findIn K (.ref C) "__eq__" = some (some (.ref g_Reader_eq)))
    (j_Reader_eq : PySem.W.isFn K (.ref g_Reader_eq) = true)
    (a_check_reader : PySem.W.nsIn K mainGlobals "check_reader" = some (some (.ref g_check_reader)))
    (a_end_flags : PySem.W.nsIn K mainGlobals "end_flags" = some (some (.ref g_end_flags)))
    (a_Writer_init : PySem.W.findIn K (.ref C_Writer) "__init__" = some (some (.ref g_Writer_init)))
    (j_Writer_init : PySem.W.isFn K (.ref g_Writer_init) = true)
    (a_Writer_eq : PySem.W.findIn K (.ref C_Writer) "__eq__" = some (some (.ref g_Writer_eq)))
    (j_Writer_eq : PySem.W.isFn K (.ref g_Writer_eq) = true)
    (a_is_output : PySem.W.nsIn K mainGlobals "is_output" = some (some (.ref g_is_output)))
    (a_is_words : PySem.W.nsIn K mainGlobals "is_words" = some (some (.ref g_is_words)))
    (a_check_writer : PySem.W.nsIn K mainGlobals "check_writer" = some (some (.ref g_check_writer)))
    (a_written : PySem.W.nsIn K mainGlobals "written" = some (some (.ref g_written)))
    (a_l_flask : PySem.W.nsIn K mainGlobals "_law_flask" = some (some (.ref g_l_flask)))
    (a_l_pour : PySem.W.nsIn K mainGlobals "_law_pour" = some (some (.ref g_l_pour)))
    (a_l_pick : PySem.W.nsIn K mainGlobals "_law_pick" = some (some (.ref g_l_pick)))
    (a_l_thing : PySem.W.nsIn K mainGlobals "_law_thing" = some (some (.ref g_l_thing)))
    (a_l_word : PySem.W.nsIn K mainGlobals "_law_word" = some (some (.ref g_l_word)))
    (a_l_scribe : PySem.W.nsIn K mainGlobals "_law_scribe" = some (some (.ref g_l_scribe)))
    (a_l_writer : PySem.W.nsIn K mainGlobals "_law_writer" = some (some (.ref g_l_writer)))
    (a_l_wrote : PySem.W.nsIn K mainGlobals "_law_wrote" = some (some (.ref g_l_wrote)))
    (a_l_words : PySem.W.nsIn K mainGlobals "_law_words" = some (some (.ref g_l_words)))
    (a_l_one_right : PySem.W.nsIn K mainGlobals "_law_one_right" = some (some (.ref g_l_one_right)))
    (a_l_equal_right : PySem.W.nsIn K mainGlobals "_law_equal_right" = some (some (.ref g_l_equal_right)))
    (a_l_right : PySem.W.nsIn K mainGlobals "_law_right" = some (some (.ref g_l_right)))
    (a_law : PySem.W.nsIn K mainGlobals "law" = some (some (.ref g_law)))
    (u_Reader_signs : PySem.W.findIn K (.ref C) "signs" = some (some (.ref pp_Reader_signs)))
    (v_Reader_signs : PySem.W.specialIn K (.ref pp_Reader_signs) "__get__" = some (some (.builtin "property.__get__")))
    (w_Reader_signs : PySem.W.takesIn K (.ref pp_Reader_signs) = some true)
    (x_Reader_signs : PySem.W.recIn K pp_Reader_signs "property" = some (.ref g_Reader_signs :: q_Reader_signs))
    (u_Reader_arrows : PySem.W.findIn K (.ref C) "arrows" = some (some (.ref pp_Reader_arrows)))
    (v_Reader_arrows : PySem.W.specialIn K (.ref pp_Reader_arrows) "__get__" = some (some (.builtin "property.__get__")))
    (w_Reader_arrows : PySem.W.takesIn K (.ref pp_Reader_arrows) = some true)
    (x_Reader_arrows : PySem.W.recIn K pp_Reader_arrows "property" = some (.ref g_Reader_arrows :: q_Reader_arrows))
    (u_Reader_ends : PySem.W.findIn K (.ref C) "ends" = some (some (.ref pp_Reader_ends)))
    (v_Reader_ends : PySem.W.specialIn K (.ref pp_Reader_ends) "__get__" = some (some (.builtin "property.__get__")))
    (w_Reader_ends : PySem.W.takesIn K (.ref pp_Reader_ends) = some true)
    (x_Reader_ends : PySem.W.recIn K pp_Reader_ends "property" = some (.ref g_Reader_ends :: q_Reader_ends))
    (u_Writer_reader : PySem.W.findIn K (.ref C_Writer) "reader" = some (some (.ref pp_Writer_reader)))
    (v_Writer_reader : PySem.W.specialIn K (.ref pp_Writer_reader) "__get__" = some (some (.builtin "property.__get__")))
    (w_Writer_reader : PySem.W.takesIn K (.ref pp_Writer_reader) = some true)
    (x_Writer_reader : PySem.W.recIn K pp_Writer_reader "property" = some (.ref g_Writer_reader :: q_Writer_reader))
    (u_Writer_signs : PySem.W.findIn K (.ref C_Writer) "signs" = some (some (.ref pp_Writer_signs)))
    (v_Writer_signs : PySem.W.specialIn K (.ref pp_Writer_signs) "__get__" = some (some (.builtin "property.__get__")))
    (w_Writer_signs : PySem.W.takesIn K (.ref pp_Writer_signs) = some true)
    (x_Writer_signs : PySem.W.recIn K pp_Writer_signs "property" = some (.ref g_Writer_signs :: q_Writer_signs))
    (u_Writer_start : PySem.W.findIn K (.ref C_Writer) "start" = some (some (.ref pp_Writer_start)))
    (v_Writer_start : PySem.W.specialIn K (.ref pp_Writer_start) "__get__" = some (some (.builtin "property.__get__")))
    (w_Writer_start : PySem.W.takesIn K (.ref pp_Writer_start) = some true)
    (x_Writer_start : PySem.W.recIn K pp_Writer_start "property" = some (.ref g_Writer_start :: q_Writer_start))
    (u_Writer_words : PySem.W.findIn K (.ref C_Writer) "words" = some (some (.ref pp_Writer_words)))
    (v_Writer_words : PySem.W.specialIn K (.ref pp_Writer_words) "__get__" = some (some (.builtin "property.__get__")))
    (w_Writer_words : PySem.W.takesIn K (.ref pp_Writer_words) = some true)
    (x_Writer_words : PySem.W.recIn K pp_Writer_words "property" = some (.ref g_Writer_words :: q_Writer_words))
    (u_Writer_lasts : PySem.W.findIn K (.ref C_Writer) "lasts" = some (some (.ref pp_Writer_lasts)))
    (v_Writer_lasts : PySem.W.specialIn K (.ref pp_Writer_lasts) "__get__" = some (some (.builtin "property.__get__")))
    (w_Writer_lasts : PySem.W.takesIn K (.ref pp_Writer_lasts) = some true)
    (x_Writer_lasts : PySem.W.recIn K pp_Writer_lasts "property" = some (.ref g_Writer_lasts :: q_Writer_lasts))
    (l_is_integer : K.lookup g_is_integer = some ⟨oc0, od0, .func (PySem.W.fnOf "is_integer" "is_integer" (defArgs s_is_integer) (defBody s_is_integer) (defScope s_is_integer) .none kV0 dc0 pm0 an0 cd0 ct0), sl0⟩)
    (c_is_integer : PySem.W.codeIn K cd0 "is_integer" = true)
    (k_is_integer : PySem.W.keepIn K (.ref g_is_integer) = true)
    (l_is_between : K.lookup g_is_between = some ⟨oc1, od1, .func (PySem.W.fnOf "is_between" "is_between" (defArgs s_is_between) (defBody s_is_between) (defScope s_is_between) .none kV1 dc1 pm1 an1 cd1 ct1), sl1⟩)
    (c_is_between : PySem.W.codeIn K cd1 "is_between" = true)
    (k_is_between : PySem.W.keepIn K (.ref g_is_between) = true)
    (l_is_row : K.lookup g_is_row = some ⟨oc2, od2, .func (PySem.W.fnOf "is_row" "is_row" (defArgs s_is_row) (defBody s_is_row) (defScope s_is_row) .none kV2 dc2 pm2 an2 cd2 ct2), sl2⟩)
    (c_is_row : PySem.W.codeIn K cd2 "is_row" = true)
    (k_is_row : PySem.W.keepIn K (.ref g_is_row) = true)
    (l_is_ascending : K.lookup g_is_ascending = some ⟨oc3, od3, .func (PySem.W.fnOf "is_ascending" "is_ascending" (defArgs s_is_ascending) (defBody s_is_ascending) (defScope s_is_ascending) .none kV3 dc3 pm3 an3 cd3 ct3), sl3⟩)
    (c_is_ascending : PySem.W.codeIn K cd3 "is_ascending" = true)
    (k_is_ascending : PySem.W.keepIn K (.ref g_is_ascending) = true)
    (l_is_stands : K.lookup g_is_stands = some ⟨oc4, od4, .func (PySem.W.fnOf "is_stands" "is_stands" (defArgs s_is_stands) (defBody s_is_stands) (defScope s_is_stands) .none kV4 dc4 pm4 an4 cd4 ct4), sl4⟩)
    (c_is_stands : PySem.W.codeIn K cd4 "is_stands" = true)
    (k_is_stands : PySem.W.keepIn K (.ref g_is_stands) = true)
    (l_is_arrows : K.lookup g_is_arrows = some ⟨oc5, od5, .func (PySem.W.fnOf "is_arrows" "is_arrows" (defArgs s_is_arrows) (defBody s_is_arrows) (defScope s_is_arrows) .none kV5 dc5 pm5 an5 cd5 ct5), sl5⟩)
    (c_is_arrows : PySem.W.codeIn K cd5 "is_arrows" = true)
    (k_is_arrows : PySem.W.keepIn K (.ref g_is_arrows) = true)
    (l_is_goals : K.lookup g_is_goals = some ⟨oc6, od6, .func (PySem.W.fnOf "is_goals" "is_goals" (defArgs s_is_goals) (defBody s_is_goals) (defScope s_is_goals) .none kV6 dc6 pm6 an6 cd6 ct6), sl6⟩)
    (c_is_goals : PySem.W.codeIn K cd6 "is_goals" = true)
    (k_is_goals : PySem.W.keepIn K (.ref g_is_goals) = true)
    (l_check_signs : K.lookup g_check_signs = some ⟨oc7, od7, .func (PySem.W.fnOf "check_signs" "check_signs" (defArgs s_check_signs) (defBody s_check_signs) (defScope s_check_signs) .none kV7 dc7 pm7 an7 cd7 ct7), sl7⟩)
    (c_check_signs : PySem.W.codeIn K cd7 "check_signs" = true)
    (k_check_signs : PySem.W.keepIn K (.ref g_check_signs) = true)
    (l_check_row : K.lookup g_check_row = some ⟨oc8, od8, .func (PySem.W.fnOf "check_row" "check_row" (defArgs s_check_row) (defBody s_check_row) (defScope s_check_row) .none kV8 dc8 pm8 an8 cd8 ct8), sl8⟩)
    (c_check_row : PySem.W.codeIn K cd8 "check_row" = true)
    (k_check_row : PySem.W.keepIn K (.ref g_check_row) = true)
    (l_flags_of : K.lookup g_flags_of = some ⟨oc9, od9, .func (PySem.W.fnOf "flags_of" "flags_of" (defArgs s_flags_of) (defBody s_flags_of) (defScope s_flags_of) .none kV9 dc9 pm9 an9 cd9 ct9), sl9⟩)
    (c_flags_of : PySem.W.codeIn K cd9 "flags_of" = true)
    (k_flags_of : PySem.W.keepIn K (.ref g_flags_of) = true)
    (l_Reader_init : K.lookup g_Reader_init = some ⟨oc10, od10, .func (PySem.W.fnOf "__init__" "Reader.__init__" (defArgs s_Reader_init) (defBody s_Reader_init) (defScope s_Reader_init) .none kV10 dc10 pm10 an10 cd10 ct10), sl10⟩)
    (c_Reader_init : PySem.W.codeIn K cd10 "Reader.__init__" = true)
    (k_Reader_init : PySem.W.keepIn K (.ref g_Reader_init) = true)
    (l_Reader_signs : K.lookup g_Reader_signs = some ⟨oc11, od11, .func (PySem.W.fnOf "signs" "Reader.signs" (defArgs s_Reader_signs) (defBody s_Reader_signs) (defScope s_Reader_signs) .none kV11 dc11 pm11 an11 cd11 ct11), sl11⟩)
    (c_Reader_signs : PySem.W.codeIn K cd11 "Reader.signs" = true)
    (k_Reader_signs : PySem.W.keepIn K (.ref g_Reader_signs) = true)
    (l_Reader_arrows : K.lookup g_Reader_arrows = some ⟨oc12, od12, .func (PySem.W.fnOf "arrows" "Reader.arrows" (defArgs s_Reader_arrows) (defBody s_Reader_arrows) (defScope s_Reader_arrows) .none kV12 dc12 pm12 an12 cd12 ct12), sl12⟩)
    (c_Reader_arrows : PySem.W.codeIn K cd12 "Reader.arrows" = true)
    (k_Reader_arrows : PySem.W.keepIn K (.ref g_Reader_arrows) = true)
    (l_Reader_ends : K.lookup g_Reader_ends = some ⟨oc13, od13, .func (PySem.W.fnOf "ends" "Reader.ends" (defArgs s_Reader_ends) (defBody s_Reader_ends) (defScope s_Reader_ends) .none kV13 dc13 pm13 an13 cd13 ct13), sl13⟩)
    (c_Reader_ends : PySem.W.codeIn K cd13 "Reader.ends" = true)
    (k_Reader_ends : PySem.W.keepIn K (.ref g_Reader_ends) = true)
    (l_Reader_len : K.lookup g_Reader_len = some ⟨oc14, od14, .func (PySem.W.fnOf "__len__" "Reader.__len__" (defArgs s_Reader_len) (defBody s_Reader_len) (defScope s_Reader_len) .none kV14 dc14 pm14 an14 cd14 ct14), sl14⟩)
    (c_Reader_len : PySem.W.codeIn K cd14 "Reader.__len__" = true)
    (k_Reader_len : PySem.W.keepIn K (.ref g_Reader_len) = true)
    (l_Reader_eq : K.lookup g_Reader_eq = some ⟨oc15, od15, .func (PySem.W.fnOf "__eq__" "Reader.__eq__" (defArgs s_Reader_eq) (defBody s_Reader_eq) (defScope s_Reader_eq) .none kV15 dc15 pm15 an15 cd15 ct15), sl15⟩)
    (c_Reader_eq : PySem.W.codeIn K cd15 "Reader.__eq__" = true)
    (k_Reader_eq : PySem.W.keepIn K (.ref g_Reader_eq) = true)
    (l_check_reader : K.lookup g_check_reader = some ⟨oc16, od16, .func (PySem.W.fnOf "check_reader" "check_reader" (defArgs s_check_reader) (defBody s_check_reader) (defScope s_check_reader) .none kV16 dc16 pm16 an16 cd16 ct16), sl16⟩)
    (c_check_reader : PySem.W.codeIn K cd16 "check_reader" = true)
    (k_check_reader : PySem.W.keepIn K (.ref g_check_reader) = true)
    (l_end_flags : K.lookup g_end_flags = some ⟨oc17, od17, .func (PySem.W.fnOf "end_flags" "end_flags" (defArgs s_end_flags) (defBody s_end_flags) (defScope s_end_flags) .none kV17 dc17 pm17 an17 cd17 ct17), sl17⟩)
    (c_end_flags : PySem.W.codeIn K cd17 "end_flags" = true)
    (k_end_flags : PySem.W.keepIn K (.ref g_end_flags) = true)
    (l_Writer_init : K.lookup g_Writer_init = some ⟨oc18, od18, .func (PySem.W.fnOf "__init__" "Writer.__init__" (defArgs s_Writer_init) (defBody s_Writer_init) (defScope s_Writer_init) .none kV18 dc18 pm18 an18 cd18 ct18), sl18⟩)
    (c_Writer_init : PySem.W.codeIn K cd18 "Writer.__init__" = true)
    (k_Writer_init : PySem.W.keepIn K (.ref g_Writer_init) = true)
    (l_Writer_reader : K.lookup g_Writer_reader = some ⟨oc19, od19, .func (PySem.W.fnOf "reader" "Writer.reader" (defArgs s_Writer_reader) (defBody s_Writer_reader) (defScope s_Writer_reader) .none kV19 dc19 pm19 an19 cd19 ct19), sl19⟩)
    (c_Writer_reader : PySem.W.codeIn K cd19 "Writer.reader" = true)
    (k_Writer_reader : PySem.W.keepIn K (.ref g_Writer_reader) = true)
    (l_Writer_signs : K.lookup g_Writer_signs = some ⟨oc20, od20, .func (PySem.W.fnOf "signs" "Writer.signs" (defArgs s_Writer_signs) (defBody s_Writer_signs) (defScope s_Writer_signs) .none kV20 dc20 pm20 an20 cd20 ct20), sl20⟩)
    (c_Writer_signs : PySem.W.codeIn K cd20 "Writer.signs" = true)
    (k_Writer_signs : PySem.W.keepIn K (.ref g_Writer_signs) = true)
    (l_Writer_start : K.lookup g_Writer_start = some ⟨oc21, od21, .func (PySem.W.fnOf "start" "Writer.start" (defArgs s_Writer_start) (defBody s_Writer_start) (defScope s_Writer_start) .none kV21 dc21 pm21 an21 cd21 ct21), sl21⟩)
    (c_Writer_start : PySem.W.codeIn K cd21 "Writer.start" = true)
    (k_Writer_start : PySem.W.keepIn K (.ref g_Writer_start) = true)
    (l_Writer_words : K.lookup g_Writer_words = some ⟨oc22, od22, .func (PySem.W.fnOf "words" "Writer.words" (defArgs s_Writer_words) (defBody s_Writer_words) (defScope s_Writer_words) .none kV22 dc22 pm22 an22 cd22 ct22), sl22⟩)
    (c_Writer_words : PySem.W.codeIn K cd22 "Writer.words" = true)
    (k_Writer_words : PySem.W.keepIn K (.ref g_Writer_words) = true)
    (l_Writer_lasts : K.lookup g_Writer_lasts = some ⟨oc23, od23, .func (PySem.W.fnOf "lasts" "Writer.lasts" (defArgs s_Writer_lasts) (defBody s_Writer_lasts) (defScope s_Writer_lasts) .none kV23 dc23 pm23 an23 cd23 ct23), sl23⟩)
    (c_Writer_lasts : PySem.W.codeIn K cd23 "Writer.lasts" = true)
    (k_Writer_lasts : PySem.W.keepIn K (.ref g_Writer_lasts) = true)
    (l_Writer_eq : K.lookup g_Writer_eq = some ⟨oc24, od24, .func (PySem.W.fnOf "__eq__" "Writer.__eq__" (defArgs s_Writer_eq) (defBody s_Writer_eq) (defScope s_Writer_eq) .none kV24 dc24 pm24 an24 cd24 ct24), sl24⟩)
    (c_Writer_eq : PySem.W.codeIn K cd24 "Writer.__eq__" = true)
    (k_Writer_eq : PySem.W.keepIn K (.ref g_Writer_eq) = true)
    (l_is_output : K.lookup g_is_output = some ⟨oc25, od25, .func (PySem.W.fnOf "is_output" "is_output" (defArgs s_is_output) (defBody s_is_output) (defScope s_is_output) .none kV25 dc25 pm25 an25 cd25 ct25), sl25⟩)
    (c_is_output : PySem.W.codeIn K cd25 "is_output" = true)
    (k_is_output : PySem.W.keepIn K (.ref g_is_output) = true)
    (l_is_words : K.lookup g_is_words = some ⟨oc26, od26, .func (PySem.W.fnOf "is_words" "is_words" (defArgs s_is_words) (defBody s_is_words) (defScope s_is_words) .none kV26 dc26 pm26 an26 cd26 ct26), sl26⟩)
    (c_is_words : PySem.W.codeIn K cd26 "is_words" = true)
    (k_is_words : PySem.W.keepIn K (.ref g_is_words) = true)
    (l_check_writer : K.lookup g_check_writer = some ⟨oc27, od27, .func (PySem.W.fnOf "check_writer" "check_writer" (defArgs s_check_writer) (defBody s_check_writer) (defScope s_check_writer) .none kV27 dc27 pm27 an27 cd27 ct27), sl27⟩)
    (c_check_writer : PySem.W.codeIn K cd27 "check_writer" = true)
    (k_check_writer : PySem.W.keepIn K (.ref g_check_writer) = true)
    (l_written : K.lookup g_written = some ⟨oc28, od28, .func (PySem.W.fnOf "written" "written" (defArgs s_written) (defBody s_written) (defScope s_written) .none kV28 dc28 pm28 an28 cd28 ct28), sl28⟩)
    (c_written : PySem.W.codeIn K cd28 "written" = true)
    (k_written : PySem.W.keepIn K (.ref g_written) = true)
    (l_l_flask : K.lookup g_l_flask = some ⟨oc29, od29, .func (PySem.W.fnOf "_law_flask" "_law_flask" (defArgs s_l_flask) (defBody s_l_flask) (defScope s_l_flask) .none kV29 dc29 pm29 an29 cd29 ct29), sl29⟩)
    (c_l_flask : PySem.W.codeIn K cd29 "_law_flask" = true)
    (k_l_flask : PySem.W.keepIn K (.ref g_l_flask) = true)
    (l_l_pour : K.lookup g_l_pour = some ⟨oc30, od30, .func (PySem.W.fnOf "_law_pour" "_law_pour" (defArgs s_l_pour) (defBody s_l_pour) (defScope s_l_pour) .none kV30 dc30 pm30 an30 cd30 ct30), sl30⟩)
    (c_l_pour : PySem.W.codeIn K cd30 "_law_pour" = true)
    (k_l_pour : PySem.W.keepIn K (.ref g_l_pour) = true)
    (l_l_pick : K.lookup g_l_pick = some ⟨oc31, od31, .func (PySem.W.fnOf "_law_pick" "_law_pick" (defArgs s_l_pick) (defBody s_l_pick) (defScope s_l_pick) .none kV31 dc31 pm31 an31 cd31 ct31), sl31⟩)
    (c_l_pick : PySem.W.codeIn K cd31 "_law_pick" = true)
    (k_l_pick : PySem.W.keepIn K (.ref g_l_pick) = true)
    (l_l_thing : K.lookup g_l_thing = some ⟨oc32, od32, .func (PySem.W.fnOf "_law_thing" "_law_thing" (defArgs s_l_thing) (defBody s_l_thing) (defScope s_l_thing) .none kV32 dc32 pm32 an32 cd32 ct32), sl32⟩)
    (c_l_thing : PySem.W.codeIn K cd32 "_law_thing" = true)
    (k_l_thing : PySem.W.keepIn K (.ref g_l_thing) = true)
    (l_l_word : K.lookup g_l_word = some ⟨oc33, od33, .func (PySem.W.fnOf "_law_word" "_law_word" (defArgs s_l_word) (defBody s_l_word) (defScope s_l_word) .none kV33 dc33 pm33 an33 cd33 ct33), sl33⟩)
    (c_l_word : PySem.W.codeIn K cd33 "_law_word" = true)
    (k_l_word : PySem.W.keepIn K (.ref g_l_word) = true)
    (l_l_scribe : K.lookup g_l_scribe = some ⟨oc34, od34, .func (PySem.W.fnOf "_law_scribe" "_law_scribe" (defArgs s_l_scribe) (defBody s_l_scribe) (defScope s_l_scribe) .none kV34 dc34 pm34 an34 cd34 ct34), sl34⟩)
    (c_l_scribe : PySem.W.codeIn K cd34 "_law_scribe" = true)
    (k_l_scribe : PySem.W.keepIn K (.ref g_l_scribe) = true)
    (l_l_writer : K.lookup g_l_writer = some ⟨oc35, od35, .func (PySem.W.fnOf "_law_writer" "_law_writer" (defArgs s_l_writer) (defBody s_l_writer) (defScope s_l_writer) .none kV35 dc35 pm35 an35 cd35 ct35), sl35⟩)
    (c_l_writer : PySem.W.codeIn K cd35 "_law_writer" = true)
    (k_l_writer : PySem.W.keepIn K (.ref g_l_writer) = true)
    (l_l_wrote : K.lookup g_l_wrote = some ⟨oc36, od36, .func (PySem.W.fnOf "_law_wrote" "_law_wrote" (defArgs s_l_wrote) (defBody s_l_wrote) (defScope s_l_wrote) .none kV36 dc36 pm36 an36 cd36 ct36), sl36⟩)
    (c_l_wrote : PySem.W.codeIn K cd36 "_law_wrote" = true)
    (k_l_wrote : PySem.W.keepIn K (.ref g_l_wrote) = true)
    (l_l_words : K.lookup g_l_words = some ⟨oc37, od37, .func (PySem.W.fnOf "_law_words" "_law_words" (defArgs s_l_words) (defBody s_l_words) (defScope s_l_words) .none kV37 dc37 pm37 an37 cd37 ct37), sl37⟩)
    (c_l_words : PySem.W.codeIn K cd37 "_law_words" = true)
    (k_l_words : PySem.W.keepIn K (.ref g_l_words) = true)
    (l_l_one_right : K.lookup g_l_one_right = some ⟨oc38, od38, .func (PySem.W.fnOf "_law_one_right" "_law_one_right" (defArgs s_l_one_right) (defBody s_l_one_right) (defScope s_l_one_right) .none kV38 dc38 pm38 an38 cd38 ct38), sl38⟩)
    (c_l_one_right : PySem.W.codeIn K cd38 "_law_one_right" = true)
    (k_l_one_right : PySem.W.keepIn K (.ref g_l_one_right) = true)
    (l_l_equal_right : K.lookup g_l_equal_right = some ⟨oc39, od39, .func (PySem.W.fnOf "_law_equal_right" "_law_equal_right" (defArgs s_l_equal_right) (defBody s_l_equal_right) (defScope s_l_equal_right) .none kV39 dc39 pm39 an39 cd39 ct39), sl39⟩)
    (c_l_equal_right : PySem.W.codeIn K cd39 "_law_equal_right" = true)
    (k_l_equal_right : PySem.W.keepIn K (.ref g_l_equal_right) = true)
    (l_l_right : K.lookup g_l_right = some ⟨oc40, od40, .func (PySem.W.fnOf "_law_right" "_law_right" (defArgs s_l_right) (defBody s_l_right) (defScope s_l_right) .none kV40 dc40 pm40 an40 cd40 ct40), sl40⟩)
    (c_l_right : PySem.W.codeIn K cd40 "_law_right" = true)
    (k_l_right : PySem.W.keepIn K (.ref g_l_right) = true)
    (l_law : K.lookup g_law = some ⟨oc41, od41, .func (PySem.W.fnOf "law" "law" (defArgs s_law) (defBody s_law) (defScope s_law) .none kV41 dc41 pm41 an41 cd41 ct41), sl41⟩)
    (c_law : PySem.W.codeIn K cd41 "law" = true)
    (k_law : PySem.W.keepIn K (.ref g_law) = true)
    (pg0 : PySem.W.plainGet K C Str.empty = true)
    (hd0 : PySem.W.hasDictIn K C = true)
    (po0 : PySem.W.plainOver K C = true)
    (sa0 : PySem.W.findIn K (.ref C) "__setattr__" = some (some (.builtin "object.__setattr__")))
    (mk0 : PySem.W.makesIn K C = true)
    (kc0 : PySem.W.keepIn K (.ref C) = true)
    (n_signs : PySem.W.findIn K (.ref C) "_signs" = some none)
    (n_arrows : PySem.W.findIn K (.ref C) "_arrows" = some none)
    (n_ends : PySem.W.findIn K (.ref C) "_ends" = some none)
    (pg0_Writer : PySem.W.plainGet K C_Writer Str.empty = true)
    (hd0_Writer : PySem.W.hasDictIn K C_Writer = true)
    (po0_Writer : PySem.W.plainOver K C_Writer = true)
    (sa0_Writer : PySem.W.findIn K (.ref C_Writer) "__setattr__" = some (some (.builtin "object.__setattr__")))
    (mk0_Writer : PySem.W.makesIn K C_Writer = true)
    (kc0_Writer : PySem.W.keepIn K (.ref C_Writer) = true)
    (n_Writer_reader : PySem.W.findIn K (.ref C_Writer) "_reader" = some none)
    (n_Writer_signs : PySem.W.findIn K (.ref C_Writer) "_signs" = some none)
    (n_Writer_start : PySem.W.findIn K (.ref C_Writer) "_start" = some none)
    (n_Writer_words : PySem.W.findIn K (.ref C_Writer) "_words" = some none)
    (n_Writer_lasts : PySem.W.findIn K (.ref C_Writer) "_lasts" = some none)
    (yb_abs : PySem.W.nsIn K mainGlobals "abs" = some none)
    (yb_all : PySem.W.nsIn K mainGlobals "all" = some none)
    (yb_bool : PySem.W.nsIn K mainGlobals "bool" = some none)
    (yb_divmod : PySem.W.nsIn K mainGlobals "divmod" = some none)
    (yb_int : PySem.W.nsIn K mainGlobals "int" = some none)
    (yb_isinstance : PySem.W.nsIn K mainGlobals "isinstance" = some none)
    (yb_len : PySem.W.nsIn K mainGlobals "len" = some none)
    (yb_max : PySem.W.nsIn K mainGlobals "max" = some none)
    (yb_min : PySem.W.nsIn K mainGlobals "min" = some none)
    (yb_range : PySem.W.nsIn K mainGlobals "range" = some none)
    (yb_repr : PySem.W.nsIn K mainGlobals "repr" = some none)
    (yb_str : PySem.W.nsIn K mainGlobals "str" = some none)
    (yb_tuple : PySem.W.nsIn K mainGlobals "tuple" = some none)
    (yb_zip : PySem.W.nsIn K mainGlobals "zip" = some none)
    (yc_ALPHABET : PySem.W.nsIn K mainGlobals "ALPHABET" = some (some (.str "abcdefgh" tc_ALPHABET)))
    (yc_MOST_ROW : PySem.W.nsIn K mainGlobals "MOST_ROW" = some (some (.int 200 tc_MOST_ROW)))
    (yc_MOST_SIGNS : PySem.W.nsIn K mainGlobals "MOST_SIGNS" = some (some (.int 8 tc_MOST_SIGNS)))
    (yc_MOST_STANDS : PySem.W.nsIn K mainGlobals "MOST_STANDS" = some (some (.int 200 tc_MOST_STANDS)))
    (yc_MOST_WORD : PySem.W.nsIn K mainGlobals "MOST_WORD" = some (some (.int 4 tc_MOST_WORD)))
    (zt_ha : PySem.W.findIn K (.ref C) "__class__" = some (some (.builtin "object.__class__")))
    (zt_mo : PySem.W.mroIn K C (.type "object") = some true)
    (zown_ne : PySem.W.findIn K (.ref C) "__ne__" = some (some (.builtin "object.__ne__")))
    (znf_Reader : PySem.W.notFirst K C (.ref C) = true)
    (zt_ha_Writer : PySem.W.findIn K (.ref C_Writer) "__class__" = some (some (.builtin "object.__class__")))
    (zt_mo_Writer : PySem.W.mroIn K C_Writer (.type "object") = some true)
    (zown_ne_Writer : PySem.W.findIn K (.ref C_Writer) "__ne__" = some (some (.builtin "object.__ne__")))
    (znb_Writer : PySem.W.findIn K (.ref C_Writer) "__bool__" = some none)
    (znl_Writer : PySem.W.findIn K (.ref C_Writer) "__len__" = some none)
    (znf_Writer_Writer : PySem.W.notFirst K C_Writer (.ref C_Writer) = true)
    (znf_Writer_Reader : PySem.W.notFirst K C_Writer (.ref C) = true)
    (zkc_Writer_Reader : PySem.W.kitOne K (.ref C) (.ref C_Writer) = some false)
    (znf_Writer_tuple : PySem.W.notFirst K C_Writer (.type "tuple") = true)
    (zkc_Writer_tuple : PySem.W.kitOne K (.type "tuple") (.ref C_Writer) = some false)
    (zt_hn : PySem.W.specialIn K (.builtin "object.__class__") "__get__" = some (some (.builtin "getset_descriptor.__get__")))
    (zt_tk : PySem.W.takesIn K (.builtin "object.__class__") = some true)
    : ∃ fd : FuncData, (∀ (s : Shared) (u : Value), BindsTo s fd ⟨[u], []⟩ [("_law_script", u)]) ∧ ∀ base : Heap, K.In base → base.Ns mainGlobals mg → FnOkG P w K mg base 25 fa fd ["_law_script"] (spLaw K) := by
  have e := hfa.symm.trans (PySem.W.mg_of X G a_law)
  cases e
  let A : Ad := { is_integer := g_is_integer, is_between := g_is_between, is_row := g_is_row, is_ascending := g_is_ascending, is_stands := g_is_stands, is_arrows := g_is_arrows, is_goals := g_is_goals, check_signs := g_check_signs, check_row := g_check_row, flags_of := g_flags_of, Reader_init := g_Reader_init, Reader_signs := g_Reader_signs, Reader_arrows := g_Reader_arrows, Reader_ends := g_Reader_ends, Reader_len := g_Reader_len, Reader_eq := g_Reader_eq, check_reader := g_check_reader, end_flags := g_end_flags, Writer_init := g_Writer_init, Writer_reader := g_Writer_reader, Writer_signs := g_Writer_signs, Writer_start := g_Writer_start, Writer_words := g_Writer_words, Writer_lasts := g_Writer_lasts, Writer_eq := g_Writer_eq, is_output := g_is_output, is_words := g_is_words, check_writer := g_check_writer, written := g_written, l_flask := g_l_flask, l_pour := g_l_pour, l_pick := g_l_pick, l_thing := g_l_thing, l_word := g_l_word, l_scribe := g_l_scribe, l_writer := g_l_writer, l_wrote := g_l_wrote, l_words := g_l_words, l_one_right := g_l_one_right, l_equal_right := g_l_equal_right, l_right := g_l_right, law := fa, C := C, pr_signs := pp_Reader_signs, pr_arrows := pp_Reader_arrows, pr_ends := pp_Reader_ends, C_Writer := C_Writer, pr_Writer_reader := pp_Writer_reader, pr_Writer_signs := pp_Writer_signs, pr_Writer_start := pp_Writer_start, pr_Writer_words := pp_Writer_words, pr_Writer_lasts := pp_Writer_lasts }
  let fd : Fds := { is_integer := PySem.W.fnOf "is_integer" "is_integer" (defArgs s_is_integer) (defBody s_is_integer) (defScope s_is_integer) .none kV0 dc0 pm0 an0 cd0 ct0, is_between := PySem.W.fnOf "is_between" "is_between" (defArgs s_is_between) (defBody s_is_between) (defScope s_is_between) .none kV1 dc1 pm1 an1 cd1 ct1, is_row := PySem.W.fnOf "is_row" "is_row" (defArgs s_is_row) (defBody s_is_row) (defScope s_is_row) .none kV2 dc2 pm2 an2 cd2 ct2, is_ascending := PySem.W.fnOf "is_ascending" "is_ascending" (defArgs s_is_ascending) (defBody s_is_ascending) (defScope s_is_ascending) .none kV3 dc3 pm3 an3 cd3 ct3, is_stands := PySem.W.fnOf "is_stands" "is_stands" (defArgs s_is_stands) (defBody s_is_stands) (defScope s_is_stands) .none kV4 dc4 pm4 an4 cd4 ct4, is_arrows := PySem.W.fnOf "is_arrows" "is_arrows" (defArgs s_is_arrows) (defBody s_is_arrows) (defScope s_is_arrows) .none kV5 dc5 pm5 an5 cd5 ct5, is_goals := PySem.W.fnOf "is_goals" "is_goals" (defArgs s_is_goals) (defBody s_is_goals) (defScope s_is_goals) .none kV6 dc6 pm6 an6 cd6 ct6, check_signs := PySem.W.fnOf "check_signs" "check_signs" (defArgs s_check_signs) (defBody s_check_signs) (defScope s_check_signs) .none kV7 dc7 pm7 an7 cd7 ct7, check_row := PySem.W.fnOf "check_row" "check_row" (defArgs s_check_row) (defBody s_check_row) (defScope s_check_row) .none kV8 dc8 pm8 an8 cd8 ct8, flags_of := PySem.W.fnOf "flags_of" "flags_of" (defArgs s_flags_of) (defBody s_flags_of) (defScope s_flags_of) .none kV9 dc9 pm9 an9 cd9 ct9, Reader_init := PySem.W.fnOf "__init__" "Reader.__init__" (defArgs s_Reader_init) (defBody s_Reader_init) (defScope s_Reader_init) .none kV10 dc10 pm10 an10 cd10 ct10, Reader_signs := PySem.W.fnOf "signs" "Reader.signs" (defArgs s_Reader_signs) (defBody s_Reader_signs) (defScope s_Reader_signs) .none kV11 dc11 pm11 an11 cd11 ct11, Reader_arrows := PySem.W.fnOf "arrows" "Reader.arrows" (defArgs s_Reader_arrows) (defBody s_Reader_arrows) (defScope s_Reader_arrows) .none kV12 dc12 pm12 an12 cd12 ct12, Reader_ends := PySem.W.fnOf "ends" "Reader.ends" (defArgs s_Reader_ends) (defBody s_Reader_ends) (defScope s_Reader_ends) .none kV13 dc13 pm13 an13 cd13 ct13, Reader_len := PySem.W.fnOf "__len__" "Reader.__len__" (defArgs s_Reader_len) (defBody s_Reader_len) (defScope s_Reader_len) .none kV14 dc14 pm14 an14 cd14 ct14, Reader_eq := PySem.W.fnOf "__eq__" "Reader.__eq__" (defArgs s_Reader_eq) (defBody s_Reader_eq) (defScope s_Reader_eq) .none kV15 dc15 pm15 an15 cd15 ct15, check_reader := PySem.W.fnOf "check_reader" "check_reader" (defArgs s_check_reader) (defBody s_check_reader) (defScope s_check_reader) .none kV16 dc16 pm16 an16 cd16 ct16, end_flags := PySem.W.fnOf "end_flags" "end_flags" (defArgs s_end_flags) (defBody s_end_flags) (defScope s_end_flags) .none kV17 dc17 pm17 an17 cd17 ct17, Writer_init := PySem.W.fnOf "__init__" "Writer.__init__" (defArgs s_Writer_init) (defBody s_Writer_init) (defScope s_Writer_init) .none kV18 dc18 pm18 an18 cd18 ct18, Writer_reader := PySem.W.fnOf "reader" "Writer.reader" (defArgs s_Writer_reader) (defBody s_Writer_reader) (defScope s_Writer_reader) .none kV19 dc19 pm19 an19 cd19 ct19, Writer_signs := PySem.W.fnOf "signs" "Writer.signs" (defArgs s_Writer_signs) (defBody s_Writer_signs) (defScope s_Writer_signs) .none kV20 dc20 pm20 an20 cd20 ct20, Writer_start := PySem.W.fnOf "start" "Writer.start" (defArgs s_Writer_start) (defBody s_Writer_start) (defScope s_Writer_start) .none kV21 dc21 pm21 an21 cd21 ct21, Writer_words := PySem.W.fnOf "words" "Writer.words" (defArgs s_Writer_words) (defBody s_Writer_words) (defScope s_Writer_words) .none kV22 dc22 pm22 an22 cd22 ct22, Writer_lasts := PySem.W.fnOf "lasts" "Writer.lasts" (defArgs s_Writer_lasts) (defBody s_Writer_lasts) (defScope s_Writer_lasts) .none kV23 dc23 pm23 an23 cd23 ct23, Writer_eq := PySem.W.fnOf "__eq__" "Writer.__eq__" (defArgs s_Writer_eq) (defBody s_Writer_eq) (defScope s_Writer_eq) .none kV24 dc24 pm24 an24 cd24 ct24, is_output := PySem.W.fnOf "is_output" "is_output" (defArgs s_is_output) (defBody s_is_output) (defScope s_is_output) .none kV25 dc25 pm25 an25 cd25 ct25, is_words := PySem.W.fnOf "is_words" "is_words" (defArgs s_is_words) (defBody s_is_words) (defScope s_is_words) .none kV26 dc26 pm26 an26 cd26 ct26, check_writer := PySem.W.fnOf "check_writer" "check_writer" (defArgs s_check_writer) (defBody s_check_writer) (defScope s_check_writer) .none kV27 dc27 pm27 an27 cd27 ct27, written := PySem.W.fnOf "written" "written" (defArgs s_written) (defBody s_written) (defScope s_written) .none kV28 dc28 pm28 an28 cd28 ct28, l_flask := PySem.W.fnOf "_law_flask" "_law_flask" (defArgs s_l_flask) (defBody s_l_flask) (defScope s_l_flask) .none kV29 dc29 pm29 an29 cd29 ct29, l_pour := PySem.W.fnOf "_law_pour" "_law_pour" (defArgs s_l_pour) (defBody s_l_pour) (defScope s_l_pour) .none kV30 dc30 pm30 an30 cd30 ct30, l_pick := PySem.W.fnOf "_law_pick" "_law_pick" (defArgs s_l_pick) (defBody s_l_pick) (defScope s_l_pick) .none kV31 dc31 pm31 an31 cd31 ct31, l_thing := PySem.W.fnOf "_law_thing" "_law_thing" (defArgs s_l_thing) (defBody s_l_thing) (defScope s_l_thing) .none kV32 dc32 pm32 an32 cd32 ct32, l_word := PySem.W.fnOf "_law_word" "_law_word" (defArgs s_l_word) (defBody s_l_word) (defScope s_l_word) .none kV33 dc33 pm33 an33 cd33 ct33, l_scribe := PySem.W.fnOf "_law_scribe" "_law_scribe" (defArgs s_l_scribe) (defBody s_l_scribe) (defScope s_l_scribe) .none kV34 dc34 pm34 an34 cd34 ct34, l_writer := PySem.W.fnOf "_law_writer" "_law_writer" (defArgs s_l_writer) (defBody s_l_writer) (defScope s_l_writer) .none kV35 dc35 pm35 an35 cd35 ct35, l_wrote := PySem.W.fnOf "_law_wrote" "_law_wrote" (defArgs s_l_wrote) (defBody s_l_wrote) (defScope s_l_wrote) .none kV36 dc36 pm36 an36 cd36 ct36, l_words := PySem.W.fnOf "_law_words" "_law_words" (defArgs s_l_words) (defBody s_l_words) (defScope s_l_words) .none kV37 dc37 pm37 an37 cd37 ct37, l_one_right := PySem.W.fnOf "_law_one_right" "_law_one_right" (defArgs s_l_one_right) (defBody s_l_one_right) (defScope s_l_one_right) .none kV38 dc38 pm38 an38 cd38 ct38, l_equal_right := PySem.W.fnOf "_law_equal_right" "_law_equal_right" (defArgs s_l_equal_right) (defBody s_l_equal_right) (defScope s_l_equal_right) .none kV39 dc39 pm39 an39 cd39 ct39, l_right := PySem.W.fnOf "_law_right" "_law_right" (defArgs s_l_right) (defBody s_l_right) (defScope s_l_right) .none kV40 dc40 pm40 an40 cd40 ct40, law := PySem.W.fnOf "law" "law" (defArgs s_law) (defBody s_law) (defScope s_law) .none kV41 dc41 pm41 an41 cd41 ct41 }
  have T : Txt K mg A := {
    b_abs := PySem.W.mg_none_of X G yb_abs,
    b_all := PySem.W.mg_none_of X G yb_all,
    b_bool := PySem.W.mg_none_of X G yb_bool,
    b_divmod := PySem.W.mg_none_of X G yb_divmod,
    b_int := PySem.W.mg_none_of X G yb_int,
    b_isinstance := PySem.W.mg_none_of X G yb_isinstance,
    b_len := PySem.W.mg_none_of X G yb_len,
    b_max := PySem.W.mg_none_of X G yb_max,
    b_min := PySem.W.mg_none_of X G yb_min,
    b_range := PySem.W.mg_none_of X G yb_range,
    b_repr := PySem.W.mg_none_of X G yb_repr,
    b_str := PySem.W.mg_none_of X G yb_str,
    b_tuple := PySem.W.mg_none_of X G yb_tuple,
    b_zip := PySem.W.mg_none_of X G yb_zip,
    c_ALPHABET := ⟨_, PySem.W.mg_of X G yc_ALPHABET⟩,
    c_MOST_ROW := ⟨_, PySem.W.mg_of X G yc_MOST_ROW⟩,
    c_MOST_SIGNS := ⟨_, PySem.W.mg_of X G yc_MOST_SIGNS⟩,
    c_MOST_STANDS := ⟨_, PySem.W.mg_of X G yc_MOST_STANDS⟩,
    c_MOST_WORD := ⟨_, PySem.W.mg_of X G yc_MOST_WORD⟩,
    m_is_integer := PySem.W.mg_of X G a_is_integer,
    k_is_integer := k_is_integer,
    m_is_between := PySem.W.mg_of X G a_is_between,
    k_is_between := k_is_between,
    m_is_row := PySem.W.mg_of X G a_is_row,
    k_is_row := k_is_row,
    m_is_ascending := PySem.W.mg_of X G a_is_ascending,
    k_is_ascending := k_is_ascending,
    m_is_stands := PySem.W.mg_of X G a_is_stands,
    k_is_stands := k_is_stands,
    m_is_arrows := PySem.W.mg_of X G a_is_arrows,
    k_is_arrows := k_is_arrows,
    m_is_goals := PySem.W.mg_of X G a_is_goals,
    k_is_goals := k_is_goals,
    m_check_signs := PySem.W.mg_of X G a_check_signs,
    k_check_signs := k_check_signs,
    m_check_row := PySem.W.mg_of X G a_check_row,
    k_check_row := k_check_row,
    m_flags_of := PySem.W.mg_of X G a_flags_of,
    k_flags_of := k_flags_of,
    m_check_reader := PySem.W.mg_of X G a_check_reader,
    k_check_reader := k_check_reader,
    m_end_flags := PySem.W.mg_of X G a_end_flags,
    k_end_flags := k_end_flags,
    m_is_output := PySem.W.mg_of X G a_is_output,
    k_is_output := k_is_output,
    m_is_words := PySem.W.mg_of X G a_is_words,
    k_is_words := k_is_words,
    m_check_writer := PySem.W.mg_of X G a_check_writer,
    k_check_writer := k_check_writer,
    m_written := PySem.W.mg_of X G a_written,
    k_written := k_written,
    m_l_flask := PySem.W.mg_of X G a_l_flask,
    k_l_flask := k_l_flask,
    m_l_pour := PySem.W.mg_of X G a_l_pour,
    k_l_pour := k_l_pour,
    m_l_pick := PySem.W.mg_of X G a_l_pick,
    k_l_pick := k_l_pick,
    m_l_thing := PySem.W.mg_of X G a_l_thing,
    k_l_thing := k_l_thing,
    m_l_word := PySem.W.mg_of X G a_l_word,
    k_l_word := k_l_word,
    m_l_scribe := PySem.W.mg_of X G a_l_scribe,
    k_l_scribe := k_l_scribe,
    m_l_writer := PySem.W.mg_of X G a_l_writer,
    k_l_writer := k_l_writer,
    m_l_wrote := PySem.W.mg_of X G a_l_wrote,
    k_l_wrote := k_l_wrote,
    m_l_words := PySem.W.mg_of X G a_l_words,
    k_l_words := k_l_words,
    m_l_one_right := PySem.W.mg_of X G a_l_one_right,
    k_l_one_right := k_l_one_right,
    m_l_equal_right := PySem.W.mg_of X G a_l_equal_right,
    k_l_equal_right := k_l_equal_right,
    m_l_right := PySem.W.mg_of X G a_l_right,
    k_l_right := k_l_right,
    m_law := PySem.W.mg_of X G a_law,
    k_law := k_law,
    m_Reader := PySem.W.mg_of X G aC,
    cl := ⟨pg0, hd0, po0, sa0⟩,
    mk_Reader := ⟨mk0, a_Reader_init, j_Reader_init, kc0⟩,
    na_signs := n_signs,
    na_arrows := n_arrows,
    na_ends := n_ends,
    p_Reader_signs := ⟨u_Reader_signs, v_Reader_signs, w_Reader_signs, _, x_Reader_signs⟩,
    p_Reader_arrows := ⟨u_Reader_arrows, v_Reader_arrows, w_Reader_arrows, _, x_Reader_arrows⟩,
    p_Reader_ends := ⟨u_Reader_ends, v_Reader_ends, w_Reader_ends, _, x_Reader_ends⟩,
    t_ha := zt_ha,
    t_mo := zt_mo,
    own_eq := a_Reader_eq,
    isf_eq := j_Reader_eq,
    own_len := a_Reader_len,
    isf_len := j_Reader_len,
    own_ne := zown_ne,
    nf_Reader := znf_Reader,
    m_Writer := PySem.W.mg_of X G aC_Writer,
    cl_Writer := ⟨pg0_Writer, hd0_Writer, po0_Writer, sa0_Writer⟩,
    mk_Writer := ⟨mk0_Writer, a_Writer_init, j_Writer_init, kc0_Writer⟩,
    na_Writer_reader := n_Writer_reader,
    na_Writer_signs := n_Writer_signs,
    na_Writer_start := n_Writer_start,
    na_Writer_words := n_Writer_words,
    na_Writer_lasts := n_Writer_lasts,
    p_Writer_reader := ⟨u_Writer_reader, v_Writer_reader, w_Writer_reader, _, x_Writer_reader⟩,
    p_Writer_signs := ⟨u_Writer_signs, v_Writer_signs, w_Writer_signs, _, x_Writer_signs⟩,
    p_Writer_start := ⟨u_Writer_start, v_Writer_start, w_Writer_start, _, x_Writer_start⟩,
    p_Writer_words := ⟨u_Writer_words, v_Writer_words, w_Writer_words, _, x_Writer_words⟩,
    p_Writer_lasts := ⟨u_Writer_lasts, v_Writer_lasts, w_Writer_lasts, _, x_Writer_lasts⟩,
    t_ha_Writer := zt_ha_Writer,
    t_mo_Writer := zt_mo_Writer,
    own_eq_Writer := a_Writer_eq,
    isf_eq_Writer := j_Writer_eq,
    own_ne_Writer := zown_ne_Writer,
    nb_Writer := znb_Writer,
    nl_Writer := znl_Writer,
    nf_Writer_Writer := znf_Writer_Writer,
    nf_Writer_Reader := znf_Writer_Reader,
    kc_Writer_Reader := zkc_Writer_Reader,
    nf_Writer_tuple := znf_Writer_tuple,
    kc_Writer_tuple := zkc_Writer_tuple,
    t_hn := zt_hn,
    t_tk := zt_tk }
  have F_is_integer := fun_mk (st := s_is_integer) l_is_integer c_is_integer k_is_integer
  have B_is_integer := F_is_integer.binds (ps := p_is_integer) fun _ _ _ _ _ _ us hl => match us, hl with | [_], _ => rfl
  have F_is_between := fun_mk (st := s_is_between) l_is_between c_is_between k_is_between
  have B_is_between := F_is_between.binds (ps := p_is_between) fun _ _ _ _ _ _ us hl => match us, hl with | [_, _, _], _ => rfl
  have F_is_row := fun_mk (st := s_is_row) l_is_row c_is_row k_is_row
  have B_is_row := F_is_row.binds (ps := p_is_row) fun _ _ _ _ _ _ us hl => match us, hl with | [_, _, _], _ => rfl
  have F_is_ascending := fun_mk (st := s_is_ascending) l_is_ascending c_is_ascending k_is_ascending
  have B_is_ascending := F_is_ascending.binds (ps := p_is_ascending) fun _ _ _ _ _ _ us hl => match us, hl with | [_], _ => rfl
  have F_is_stands := fun_mk (st := s_is_stands) l_is_stands c_is_stands k_is_stands
  have B_is_stands := F_is_stands.binds (ps := p_is_stands) fun _ _ _ _ _ _ us hl => match us, hl with | [_, _], _ => rfl
  have F_is_arrows := fun_mk (st := s_is_arrows) l_is_arrows c_is_arrows k_is_arrows
  have B_is_arrows := F_is_arrows.binds (ps := p_is_arrows) fun _ _ _ _ _ _ us hl => match us, hl with | [_, _], _ => rfl
  have F_is_goals := fun_mk (st := s_is_goals) l_is_goals c_is_goals k_is_goals
  have B_is_goals := F_is_goals.binds (ps := p_is_goals) fun _ _ _ _ _ _ us hl => match us, hl with | [_, _, _], _ => rfl
  have F_check_signs := fun_mk (st := s_check_signs) l_check_signs c_check_signs k_check_signs
  have B_check_signs := F_check_signs.binds (ps := p_check_signs) fun _ _ _ _ _ _ us hl => match us, hl with | [_], _ => rfl
  have F_check_row := fun_mk (st := s_check_row) l_check_row c_check_row k_check_row
  have B_check_row := F_check_row.binds (ps := p_check_row) fun _ _ _ _ _ _ us hl => match us, hl with | [_, _], _ => rfl
  have F_flags_of := fun_mk (st := s_flags_of) l_flags_of c_flags_of k_flags_of
  have B_flags_of := F_flags_of.binds (ps := p_flags_of) fun _ _ _ _ _ _ us hl => match us, hl with | [_, _], _ => rfl
  have F_Reader_init := fun_mk (st := s_Reader_init) l_Reader_init c_Reader_init k_Reader_init
  have B_Reader_init := F_Reader_init.binds (ps := p_Reader_init) fun _ _ _ _ _ _ us hl => match us, hl with | [_, _, _, _], _ => rfl
  have F_Reader_signs := fun_mk (st := s_Reader_signs) l_Reader_signs c_Reader_signs k_Reader_signs
  have B_Reader_signs := F_Reader_signs.binds (ps := p_Reader_signs) fun _ _ _ _ _ _ us hl => match us, hl with | [_], _ => rfl
  have F_Reader_arrows := fun_mk (st := s_Reader_arrows) l_Reader_arrows c_Reader_arrows k_Reader_arrows
  have B_Reader_arrows := F_Reader_arrows.binds (ps := p_Reader_arrows) fun _ _ _ _ _ _ us hl => match us, hl with | [_], _ => rfl
  have F_Reader_ends := fun_mk (st := s_Reader_ends) l_Reader_ends c_Reader_ends k_Reader_ends
  have B_Reader_ends := F_Reader_ends.binds (ps := p_Reader_ends) fun _ _ _ _ _ _ us hl => match us, hl with | [_], _ => rfl
  have F_Reader_len := fun_mk (st := s_Reader_len) l_Reader_len c_Reader_len k_Reader_len
  have B_Reader_len := F_Reader_len.binds (ps := p_Reader_len) fun _ _ _ _ _ _ us hl => match us, hl with | [_], _ => rfl
  have F_Reader_eq := fun_mk (st := s_Reader_eq) l_Reader_eq c_Reader_eq k_Reader_eq
  have B_Reader_eq := F_Reader_eq.binds (ps := p_Reader_eq) fun _ _ _ _ _ _ us hl => match us, hl with | [_, _], _ => rfl
  have F_check_reader := fun_mk (st := s_check_reader) l_check_reader c_check_reader k_check_reader
  have B_check_reader := F_check_reader.binds (ps := p_check_reader) fun _ _ _ _ _ _ us hl => match us, hl with | [_], _ => rfl
  have F_end_flags := fun_mk (st := s_end_flags) l_end_flags c_end_flags k_end_flags
  have B_end_flags := F_end_flags.binds (ps := p_end_flags) fun _ _ _ _ _ _ us hl => match us, hl with | [_], _ => rfl
  have F_Writer_init := fun_mk (st := s_Writer_init) l_Writer_init c_Writer_init k_Writer_init
  have B_Writer_init := F_Writer_init.binds (ps := p_Writer_init) fun _ _ _ _ _ _ us hl => match us, hl with | [_, _, _, _, _, _], _ => rfl
  have F_Writer_reader := fun_mk (st := s_Writer_reader) l_Writer_reader c_Writer_reader k_Writer_reader
  have B_Writer_reader := F_Writer_reader.binds (ps := p_Writer_reader) fun _ _ _ _ _ _ us hl => match us, hl with | [_], _ => rfl
  have F_Writer_signs := fun_mk (st := s_Writer_signs) l_Writer_signs c_Writer_signs k_Writer_signs
  have B_Writer_signs := F_Writer_signs.binds (ps := p_Writer_signs) fun _ _ _ _ _ _ us hl => match us, hl with | [_], _ => rfl
  have F_Writer_start := fun_mk (st := s_Writer_start) l_Writer_start c_Writer_start k_Writer_start
  have B_Writer_start := F_Writer_start.binds (ps := p_Writer_start) fun _ _ _ _ _ _ us hl => match us, hl with | [_], _ => rfl
  have F_Writer_words := fun_mk (st := s_Writer_words) l_Writer_words c_Writer_words k_Writer_words
  have B_Writer_words := F_Writer_words.binds (ps := p_Writer_words) fun _ _ _ _ _ _ us hl => match us, hl with | [_], _ => rfl
  have F_Writer_lasts := fun_mk (st := s_Writer_lasts) l_Writer_lasts c_Writer_lasts k_Writer_lasts
  have B_Writer_lasts := F_Writer_lasts.binds (ps := p_Writer_lasts) fun _ _ _ _ _ _ us hl => match us, hl with | [_], _ => rfl
  have F_Writer_eq := fun_mk (st := s_Writer_eq) l_Writer_eq c_Writer_eq k_Writer_eq
  have B_Writer_eq := F_Writer_eq.binds (ps := p_Writer_eq) fun _ _ _ _ _ _ us hl => match us, hl with | [_, _], _ => rfl
  have F_is_output := fun_mk (st := s_is_output) l_is_output c_is_output k_is_output
  have B_is_output := F_is_output.binds (ps := p_is_output) fun _ _ _ _ _ _ us hl => match us, hl with | [_, _, _], _ => rfl
  have F_is_words := fun_mk (st := s_is_words) l_is_words c_is_words k_is_words
  have B_is_words := F_is_words.binds (ps := p_is_words) fun _ _ _ _ _ _ us hl => match us, hl with | [_, _, _], _ => rfl
  have F_check_writer := fun_mk (st := s_check_writer) l_check_writer c_check_writer k_check_writer
  have B_check_writer := F_check_writer.binds (ps := p_check_writer) fun _ _ _ _ _ _ us hl => match us, hl with | [_], _ => rfl
  have F_written := fun_mk (st := s_written) l_written c_written k_written
  have B_written := F_written.binds (ps := p_written) fun _ _ _ _ _ _ us hl => match us, hl with | [_, _], _ => rfl
  have F_l_flask := fun_mk (st := s_l_flask) l_l_flask c_l_flask k_l_flask
  have B_l_flask := F_l_flask.binds (ps := p_l_flask) fun _ _ _ _ _ _ us hl => match us, hl with | [_, _], _ => rfl
  have F_l_pour := fun_mk (st := s_l_pour) l_l_pour c_l_pour k_l_pour
  have B_l_pour := F_l_pour.binds (ps := p_l_pour) fun _ _ _ _ _ _ us hl => match us, hl with | [_, _], _ => rfl
  have F_l_pick := fun_mk (st := s_l_pick) l_l_pick c_l_pick k_l_pick
  have B_l_pick := F_l_pick.binds (ps := p_l_pick) fun _ _ _ _ _ _ us hl => match us, hl with | [_, _], _ => rfl
  have F_l_thing := fun_mk (st := s_l_thing) l_l_thing c_l_thing k_l_thing
  have B_l_thing := F_l_thing.binds (ps := p_l_thing) fun _ _ _ _ _ _ us hl => match us, hl with | [_, _, _], _ => rfl
  have F_l_word := fun_mk (st := s_l_word) l_l_word c_l_word k_l_word
  have B_l_word := F_l_word.binds (ps := p_l_word) fun _ _ _ _ _ _ us hl => match us, hl with | [_, _], _ => rfl
  have F_l_scribe := fun_mk (st := s_l_scribe) l_l_scribe c_l_scribe k_l_scribe
  have B_l_scribe := F_l_scribe.binds (ps := p_l_scribe) fun _ _ _ _ _ _ us hl => match us, hl with | [_, _, _, _], _ => rfl
  have F_l_writer := fun_mk (st := s_l_writer) l_l_writer c_l_writer k_l_writer
  have B_l_writer := F_l_writer.binds (ps := p_l_writer) fun _ _ _ _ _ _ us hl => match us, hl with | [_, _], _ => rfl
  have F_l_wrote := fun_mk (st := s_l_wrote) l_l_wrote c_l_wrote k_l_wrote
  have B_l_wrote := F_l_wrote.binds (ps := p_l_wrote) fun _ _ _ _ _ _ us hl => match us, hl with | [_, _], _ => rfl
  have F_l_words := fun_mk (st := s_l_words) l_l_words c_l_words k_l_words
  have B_l_words := F_l_words.binds (ps := p_l_words) fun _ _ _ _ _ _ us hl => match us, hl with | [_, _], _ => rfl
  have F_l_one_right := fun_mk (st := s_l_one_right) l_l_one_right c_l_one_right k_l_one_right
  have B_l_one_right := F_l_one_right.binds (ps := p_l_one_right) fun _ _ _ _ _ _ us hl => match us, hl with | [_, _, _], _ => rfl
  have F_l_equal_right := fun_mk (st := s_l_equal_right) l_l_equal_right c_l_equal_right k_l_equal_right
  have B_l_equal_right := F_l_equal_right.binds (ps := p_l_equal_right) fun _ _ _ _ _ _ us hl => match us, hl with | [_, _, _], _ => rfl
  have F_l_right := fun_mk (st := s_l_right) l_l_right c_l_right k_l_right
  have B_l_right := F_l_right.binds (ps := p_l_right) fun _ _ _ _ _ _ us hl => match us, hl with | [_], _ => rfl
  have F_law := fun_mk (st := s_law) l_law c_law k_law
  have B_law := F_law.binds (ps := p_law) fun _ _ _ _ _ _ us hl => match us, hl with | [_], _ => rfl
  have U : Funs K A fd := {
    F_is_integer := F_is_integer, b_is_integer := B_is_integer,
    F_is_between := F_is_between, b_is_between := B_is_between,
    F_is_row := F_is_row, b_is_row := B_is_row,
    F_is_ascending := F_is_ascending, b_is_ascending := B_is_ascending,
    F_is_stands := F_is_stands, b_is_stands := B_is_stands,
    F_is_arrows := F_is_arrows, b_is_arrows := B_is_arrows,
    F_is_goals := F_is_goals, b_is_goals := B_is_goals,
    F_check_signs := F_check_signs, b_check_signs := B_check_signs,
    F_check_row := F_check_row, b_check_row := B_check_row,
    F_flags_of := F_flags_of, b_flags_of := B_flags_of,
    F_Reader_init := F_Reader_init, b_Reader_init := B_Reader_init,
    F_Reader_signs := F_Reader_signs, b_Reader_signs := B_Reader_signs,
    F_Reader_arrows := F_Reader_arrows, b_Reader_arrows := B_Reader_arrows,
    F_Reader_ends := F_Reader_ends, b_Reader_ends := B_Reader_ends,
    F_Reader_len := F_Reader_len, b_Reader_len := B_Reader_len,
    F_Reader_eq := F_Reader_eq, b_Reader_eq := B_Reader_eq,
    F_check_reader := F_check_reader, b_check_reader := B_check_reader,
    F_end_flags := F_end_flags, b_end_flags := B_end_flags,
    F_Writer_init := F_Writer_init, b_Writer_init := B_Writer_init,
    F_Writer_reader := F_Writer_reader, b_Writer_reader := B_Writer_reader,
    F_Writer_signs := F_Writer_signs, b_Writer_signs := B_Writer_signs,
    F_Writer_start := F_Writer_start, b_Writer_start := B_Writer_start,
    F_Writer_words := F_Writer_words, b_Writer_words := B_Writer_words,
    F_Writer_lasts := F_Writer_lasts, b_Writer_lasts := B_Writer_lasts,
    F_Writer_eq := F_Writer_eq, b_Writer_eq := B_Writer_eq,
    F_is_output := F_is_output, b_is_output := B_is_output,
    F_is_words := F_is_words, b_is_words := B_is_words,
    F_check_writer := F_check_writer, b_check_writer := B_check_writer,
    F_written := F_written, b_written := B_written,
    F_l_flask := F_l_flask, b_l_flask := B_l_flask,
    F_l_pour := F_l_pour, b_l_pour := B_l_pour,
    F_l_pick := F_l_pick, b_l_pick := B_l_pick,
    F_l_thing := F_l_thing, b_l_thing := B_l_thing,
    F_l_word := F_l_word, b_l_word := B_l_word,
    F_l_scribe := F_l_scribe, b_l_scribe := B_l_scribe,
    F_l_writer := F_l_writer, b_l_writer := B_l_writer,
    F_l_wrote := F_l_wrote, b_l_wrote := B_l_wrote,
    F_l_words := F_l_words, b_l_words := B_l_words,
    F_l_one_right := F_l_one_right, b_l_one_right := B_l_one_right,
    F_l_equal_right := F_l_equal_right, b_l_equal_right := B_l_equal_right,
    F_l_right := F_l_right, b_l_right := B_l_right,
    F_law := F_law, b_law := B_law }
  exact ⟨PySem.W.fnOf "law" "law" (defArgs s_law) (defBody s_law) (defScope s_law) .none kV41 dc41 pm41 an41 cd41 ct41, fun s u => .of_eq rfl, fun base _ _ => ok_law T U⟩
end K6
open PySem PySem.W PyProof.Rows
set_option maxRecDepth 100000 in
set_option maxHeartbeats 0 in
theorem PySem.Challenge.cw_rowreaders_k56_whole_written_rows_holds : PySem.Challenge.rw_rowreaders_k56_whole_written_rows.Holds := by
  w_on; o_law; k_head; (case hw => w_witness2)
  k_fill
  refine Rw.walkG (l := PySem.Challenge.rw_rowreaders_k56_whole_written_rows) (n := 63) (k := 25) (x := "_law_script") (sp := K6.spLaw) rfl (by decide) rfl ⟨rfl, by decide, by decide⟩ (fun w h Y => PySem.W.kIn_of Y) ?F (fun K H a ns hl _ hS => ⟨a, ns, rfl, hS, hl, fun _ => rfl⟩)
  case F =>
    intro w mg fa h KX G hmg
    refine' K6.all_mk KX G hmg ?aC ?aC_Writer ?a_is_integer ?a_is_between ?a_is_row ?a_is_ascending ?a_is_stands ?a_is_arrows ?a_is_goals ?a_check_signs ?a_check_row ?a_flags_of ?a_Reader_init ?j_Reader_init ?a_Reader_len ?j_Reader_len ?a_Reader_eq ?j_Reader_eq ?a_check_reader ?a_end_flags ?a_Writer_init ?j_Writer_init ?a_Writer_eq ?j_Writer_eq ?a_is_output ?a_is_words ?a_check_writer ?a_written ?a_l_flask ?a_l_pour ?a_l_pick ?a_l_thing ?a_l_word ?a_l_scribe ?a_l_writer ?a_l_wrote ?a_l_words ?a_l_one_right ?a_l_equal_right ?a_l_right ?a_law ?u_Reader_signs ?v_Reader_signs ?w_Reader_signs ?x_Reader_signs ?u_Reader_arrows ?v_Reader_arrows ?w_Reader_arrows ?x_Reader_arrows ?u_Reader_ends ?v_Reader_ends ?w_Reader_ends ?x_Reader_ends ?u_Writer_reader ?v_Writer_reader ?w_Writer_reader ?x_Writer_reader ?u_Writer_signs ?v_Writer_signs ?w_Writer_signs ?x_Writer_signs ?u_Writer_start ?v_Writer_start ?w_Writer_start ?x_Writer_start ?u_Writer_words ?v_Writer_words ?w_Writer_words ?x_Writer_words ?u_Writer_lasts ?v_Writer_lasts ?w_Writer_lasts ?x_Writer_lasts ?l_is_integer ?c_is_integer ?k_is_integer ?l_is_between ?c_is_between ?k_is_between ?l_is_row ?c_is_row ?k_is_row ?l_is_ascending ?c_is_ascending ?k_is_ascending ?l_is_stands ?c_is_stands ?k_is_stands ?l_is_arrows ?c_is_arrows ?k_is_arrows ?l_is_goals ?c_is_goals ?k_is_goals ?l_check_signs ?c_check_signs ?k_check_signs ?l_check_row ?c_check_row ?k_check_row ?l_flags_of ?c_flags_of ?k_flags_of ?l_Reader_init ?c_Reader_init ?k_Reader_init ?l_Reader_signs ?c_Reader_signs ?k_Reader_signs ?l_Reader_arrows ?c_Reader_arrows ?k_Reader_arrows ?l_Reader_ends ?c_Reader_ends ?k_Reader_ends ?l_Reader_len ?c_Reader_len ?k_Reader_len ?l_Reader_eq ?c_Reader_eq ?k_Reader_eq ?l_check_reader ?c_check_reader ?k_check_reader ?l_end_flags ?c_end_flags ?k_end_flags ?l_Writer_init ?c_Writer_init ?k_Writer_init ?l_Writer_reader ?c_Writer_reader ?k_Writer_reader ?l_Writer_signs ?c_Writer_signs ?k_Writer_signs ?l_Writer_start ?c_Writer_start ?k_Writer_start ?l_Writer_words ?c_Writer_words ?k_Writer_words ?l_Writer_lasts ?c_Writer_lasts ?k_Writer_lasts ?l_Writer_eq ?c_Writer_eq ?k_Writer_eq ?l_is_output ?c_is_output ?k_is_output ?l_is_words ?c_is_words ?k_is_words ?l_check_writer ?c_check_writer ?k_check_writer ?l_written ?c_written ?k_written ?l_l_flask ?c_l_flask ?k_l_flask ?l_l_pour ?c_l_pour ?k_l_pour ?l_l_pick ?c_l_pick ?k_l_pick ?l_l_thing ?c_l_thing ?k_l_thing ?l_l_word ?c_l_word ?k_l_word ?l_l_scribe ?c_l_scribe ?k_l_scribe ?l_l_writer ?c_l_writer ?k_l_writer ?l_l_wrote ?c_l_wrote ?k_l_wrote ?l_l_words ?c_l_words ?k_l_words ?l_l_one_right ?c_l_one_right ?k_l_one_right ?l_l_equal_right ?c_l_equal_right ?k_l_equal_right ?l_l_right ?c_l_right ?k_l_right ?l_law ?c_law ?k_law ?pg0 ?hd0 ?po0 ?sa0 ?mk0 ?kc0 ?n_signs ?n_arrows ?n_ends ?pg0_Writer ?hd0_Writer ?po0_Writer ?sa0_Writer ?mk0_Writer ?kc0_Writer ?n_Writer_reader ?n_Writer_signs ?n_Writer_start ?n_Writer_words ?n_Writer_lasts ?yb_abs ?yb_all ?yb_bool ?yb_divmod ?yb_int ?yb_isinstance ?yb_len ?yb_max ?yb_min ?yb_range ?yb_repr ?yb_str ?yb_tuple ?yb_zip ?yc_ALPHABET ?yc_MOST_ROW ?yc_MOST_SIGNS ?yc_MOST_STANDS ?yc_MOST_WORD ?zt_ha ?zt_mo ?zown_ne ?znf_Reader ?zt_ha_Writer ?zt_mo_Writer ?zown_ne_Writer ?znb_Writer ?znl_Writer ?znf_Writer_Writer ?znf_Writer_Reader ?zkc_Writer_Reader ?znf_Writer_tuple ?zkc_Writer_tuple ?zt_hn ?zt_tk
    (case aC => k_is)
    (case aC_Writer => k_is)
    (case a_is_integer => k_is)
    (case a_is_between => k_is)
    (case a_is_row => k_is)
    (case a_is_ascending => k_is)
    (case a_is_stands => k_is)
    (case a_is_arrows => k_is)
    (case a_is_goals => k_is)
    (case a_check_signs => k_is)
    (case a_check_row => k_is)
    (case a_flags_of => k_is)
    (case a_Reader_init => k_is)
    (case j_Reader_init => k_is)
    (case a_Reader_len => k_is)
    (case j_Reader_len => k_is)
    (case a_Reader_eq => k_is)
    (case j_Reader_eq => k_is)
    (case a_check_reader => k_is)
    (case a_end_flags => k_is)
    (case a_Writer_init => k_is)
    (case j_Writer_init => k_is)
    (case a_Writer_eq => k_is)
    (case j_Writer_eq => k_is)
    (case a_is_output => k_is)
    (case a_is_words => k_is)
    (case a_check_writer => k_is)
    (case a_written => k_is)
    (case a_l_flask => k_is)
    (case a_l_pour => k_is)
    (case a_l_pick => k_is)
    (case a_l_thing => k_is)
    (case a_l_word => k_is)
    (case a_l_scribe => k_is)
    (case a_l_writer => k_is)
    (case a_l_wrote => k_is)
    (case a_l_words => k_is)
    (case a_l_one_right => k_is)
    (case a_l_equal_right => k_is)
    (case a_l_right => k_is)
    (case a_law => k_is)
    (case u_Reader_signs => k_is)
    (case v_Reader_signs => k_is)
    (case w_Reader_signs => k_is)
    (case x_Reader_signs => k_is)
    (case u_Reader_arrows => k_is)
    (case v_Reader_arrows => k_is)
    (case w_Reader_arrows => k_is)
    (case x_Reader_arrows => k_is)
    (case u_Reader_ends => k_is)
    (case v_Reader_ends => k_is)
    (case w_Reader_ends => k_is)
    (case x_Reader_ends => k_is)
    (case u_Writer_reader => k_is)
    (case v_Writer_reader => k_is)
    (case w_Writer_reader => k_is)
    (case x_Writer_reader => k_is)
    (case u_Writer_signs => k_is)
    (case v_Writer_signs => k_is)
    (case w_Writer_signs => k_is)
    (case x_Writer_signs => k_is)
    (case u_Writer_start => k_is)
    (case v_Writer_start => k_is)
    (case w_Writer_start => k_is)
    (case x_Writer_start => k_is)
    (case u_Writer_words => k_is)
    (case v_Writer_words => k_is)
    (case w_Writer_words => k_is)
    (case x_Writer_words => k_is)
    (case u_Writer_lasts => k_is)
    (case v_Writer_lasts => k_is)
    (case w_Writer_lasts => k_is)
    (case x_Writer_lasts => k_is)
    (case l_is_integer => k_is)
    (case c_is_integer => k_is)
    (case k_is_integer => k_is)
    (case l_is_between => k_is)
    (case c_is_between => k_is)
    (case k_is_between => k_is)
    (case l_is_row => k_is)
    (case c_is_row => k_is)
    (case k_is_row => k_is)
    (case l_is_ascending => k_is)
    (case c_is_ascending => k_is)
    (case k_is_ascending => k_is)
    (case l_is_stands => k_is)
    (case c_is_stands => k_is)
    (case k_is_stands => k_is)
    (case l_is_arrows => k_is)
    (case c_is_arrows => k_is)
    (case k_is_arrows => k_is)
    (case l_is_goals => k_is)
    (case c_is_goals => k_is)
    (case k_is_goals => k_is)
    (case l_check_signs => k_is)
    (case c_check_signs => k_is)
    (case k_check_signs => k_is)
    (case l_check_row => k_is)
    (case c_check_row => k_is)
    (case k_check_row => k_is)
    (case l_flags_of => k_is)
    (case c_flags_of => k_is)
    (case k_flags_of => k_is)
    (case l_Reader_init => k_is)
    (case c_Reader_init => k_is)
    (case k_Reader_init => k_is)
    (case l_Reader_signs => k_is)
    (case c_Reader_signs => k_is)
    (case k_Reader_signs => k_is)
    (case l_Reader_arrows => k_is)
    (case c_Reader_arrows => k_is)
    (case k_Reader_arrows => k_is)
    (case l_Reader_ends => k_is)
    (case c_Reader_ends => k_is)
    (case k_Reader_ends => k_is)
    (case l_Reader_len => k_is)
    (case c_Reader_len => k_is)
    (case k_Reader_len => k_is)
    (case l_Reader_eq => k_is)
    (case c_Reader_eq => k_is)
    (case k_Reader_eq => k_is)
    (case l_check_reader => k_is)
    (case c_check_reader => k_is)
    (case k_check_reader => k_is)
    (case l_end_flags => k_is)
    (case c_end_flags => k_is)
    (case k_end_flags => k_is)
    (case l_Writer_init => k_is)
    (case c_Writer_init => k_is)
    (case k_Writer_init => k_is)
    (case l_Writer_reader => k_is)
    (case c_Writer_reader => k_is)
    (case k_Writer_reader => k_is)
    (case l_Writer_signs => k_is)
    (case c_Writer_signs => k_is)
    (case k_Writer_signs => k_is)
    (case l_Writer_start => k_is)
    (case c_Writer_start => k_is)
    (case k_Writer_start => k_is)
    (case l_Writer_words => k_is)
    (case c_Writer_words => k_is)
    (case k_Writer_words => k_is)
    (case l_Writer_lasts => k_is)
    (case c_Writer_lasts => k_is)
    (case k_Writer_lasts => k_is)
    (case l_Writer_eq => k_is)
    (case c_Writer_eq => k_is)
    (case k_Writer_eq => k_is)
    (case l_is_output => k_is)
    (case c_is_output => k_is)
    (case k_is_output => k_is)
    (case l_is_words => k_is)
    (case c_is_words => k_is)
    (case k_is_words => k_is)
    (case l_check_writer => k_is)
    (case c_check_writer => k_is)
    (case k_check_writer => k_is)
    (case l_written => k_is)
    (case c_written => k_is)
    (case k_written => k_is)
    (case l_l_flask => k_is)
    (case c_l_flask => k_is)
    (case k_l_flask => k_is)
    (case l_l_pour => k_is)
    (case c_l_pour => k_is)
    (case k_l_pour => k_is)
    (case l_l_pick => k_is)
    (case c_l_pick => k_is)
    (case k_l_pick => k_is)
    (case l_l_thing => k_is)
    (case c_l_thing => k_is)
    (case k_l_thing => k_is)
    (case l_l_word => k_is)
    (case c_l_word => k_is)
    (case k_l_word => k_is)
    (case l_l_scribe => k_is)
    (case c_l_scribe => k_is)
    (case k_l_scribe => k_is)
    (case l_l_writer => k_is)
    (case c_l_writer => k_is)
    (case k_l_writer => k_is)
    (case l_l_wrote => k_is)
    (case c_l_wrote => k_is)
    (case k_l_wrote => k_is)
    (case l_l_words => k_is)
    (case c_l_words => k_is)
    (case k_l_words => k_is)
    (case l_l_one_right => k_is)
    (case c_l_one_right => k_is)
    (case k_l_one_right => k_is)
    (case l_l_equal_right => k_is)
    (case c_l_equal_right => k_is)
    (case k_l_equal_right => k_is)
    (case l_l_right => k_is)
    (case c_l_right => k_is)
    (case k_l_right => k_is)
    (case l_law => k_is)
    (case c_law => k_is)
    (case k_law => k_is)
    (case pg0 => k_is)
    (case hd0 => k_is)
    (case po0 => k_is)
    (case sa0 => k_is)
    (case mk0 => k_is)
    (case kc0 => k_is)
    (case n_signs => k_is)
    (case n_arrows => k_is)
    (case n_ends => k_is)
    (case pg0_Writer => k_is)
    (case hd0_Writer => k_is)
    (case po0_Writer => k_is)
    (case sa0_Writer => k_is)
    (case mk0_Writer => k_is)
    (case kc0_Writer => k_is)
    (case n_Writer_reader => k_is)
    (case n_Writer_signs => k_is)
    (case n_Writer_start => k_is)
    (case n_Writer_words => k_is)
    (case n_Writer_lasts => k_is)
    (case yb_abs => k_is)
    (case yb_all => k_is)
    (case yb_bool => k_is)
    (case yb_divmod => k_is)
    (case yb_int => k_is)
    (case yb_isinstance => k_is)
    (case yb_len => k_is)
    (case yb_max => k_is)
    (case yb_min => k_is)
    (case yb_range => k_is)
    (case yb_repr => k_is)
    (case yb_str => k_is)
    (case yb_tuple => k_is)
    (case yb_zip => k_is)
    (case yc_ALPHABET => k_is)
    (case yc_MOST_ROW => k_is)
    (case yc_MOST_SIGNS => k_is)
    (case yc_MOST_STANDS => k_is)
    (case yc_MOST_WORD => k_is)
    (case zt_ha => k_is)
    (case zt_mo => k_is)
    (case zown_ne => k_is)
    (case znf_Reader => first | kernel_rfl | k_is)
    (case zt_ha_Writer => k_is)
    (case zt_mo_Writer => k_is)
    (case zown_ne_Writer => k_is)
    (case znb_Writer => k_is)
    (case znl_Writer => k_is)
    (case znf_Writer_Writer => first | kernel_rfl | k_is)
    (case znf_Writer_Reader => first | kernel_rfl | k_is)
    (case zkc_Writer_Reader => first | kernel_rfl | k_is)
    (case znf_Writer_tuple => first | kernel_rfl | k_is)
    (case zkc_Writer_tuple => first | kernel_rfl | k_is)
    (case zt_hn => k_is)
    (case zt_tk => k_is)

