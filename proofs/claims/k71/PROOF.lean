import PyProof.Rows.All
import Wide.All
import OpenK.AllK
import Wide.FinOn
import HandS.ForMost
import HandS.Wide
import HandS.Codes
import PyProof.ReprRoads
import HandS.Conv
import HandS.IsInst
import HandS.Style
import HandS.TupAny
import HandS.ForExc
import HandS.ExcIs
import HandS.ExcInit
import HandS.ExcField
import HandS.ExcOwn
import KE.KExcIs
import KE.KExcInit
import PyProof.ExcBaseAll.LookupError
import HandS.Lambda
import HandS.Dict
import HandS.OwnEq
import HandS.SlotsOwn
import KE.KCallOwn
import KE.KOpsOwn
import KE.KFmtOwn
import OpenK.KMeth
import PyProof.AssignAttr
import HandS.Zip
import HandS.Walk
import PyProof.WalkInts
import PyProof.WalksMore
import HandS.Star
import HandS.Small
import HandS.OwnIter
import HandS.IterVal
import HandS.ClsMeth
import HandS.List
import KE.DataEq
import PyProof.FactsAll.dict_1
import PyProof.FactsAll.subtypes
import HandS.EndOwn
import HandS.Gcd
import KE.KMathGC
import HandS.TupMul
import HandS.FStr
import HandS.Text
import PySem.Challenge.RW_smallchange_k71_rules_as_objects
set_option Elab.async false
set_option linter.all false
set_option maxRecDepth 100000
set_option maxHeartbeats 4000000
namespace Sm
open PySem PySem.Spec PyProof.Rows L2
/-! ### promises of defs where no repr is under way: as FnOk, with A's guards empty -/
structure FnG (P : Program) (w : World) (K : PySem.W.Frag) (mg : Str → Option Value) (base : Heap) (k : Nat) (f : Addr) (fd : FuncData) (ps : List Str) (sp : Sp) : Prop where
  len : ∀ vs H Q E, sp vs H Q E → vs.length = ps.length
  run : ∀ (A : Around) (outer : List Env) (s : Shared) (H : Hp) (args : Args) (us : List Value) (vs : List V) (Q : VK) (E : XK), A.guards = some [] → Room k A →
    Env0 P w K mg base A outer s H → BindsTo s fd args (ps.zip us) → Vals vs us → sp vs H Q E → codeAny (model P w) A (.call (.ref f) args) (CR CX0 outer P w H s Q E) s
section
variable {P : Program} {w : World} {K : PySem.W.Frag} {mg : Str → Option Value} {base : Heap} {k : Nat} {f : Addr} {fd : FuncData} {ps : List Str} {sp : Sp}
theorem FnG.of (F : FnOk P w K mg base CX0 k f fd ps sp) : FnG P w K mg base k f fd ps sp :=
  ⟨F.len, fun A outer s H args us vs Q E _ hr e b v h => F.run A outer s H args us vs Q E hr e b v h⟩
theorem FnG.body {x : Str} {st : Stmt} {N : List Str} (F : Fun K x x st f fd) (S : FnScope N ps (defScope st)) (len : ∀ vs H Q E, sp vs H Q E → vs.length = ps.length)
    (hb : ∀ (cdv : Value) (A : Around) (outer : List Env) (s : Shared) (H : Hp) (vs : List V) (Q : VK) (E : XK), A.guards = some [] → Room k (A.deeper (envOfC x (defScope st) s.heap.objs.size f cdv)) → sp vs H Q E →
      ∃ t, PSs (cxOf CX0 P w K mg base N x (defScope st) f cdv A outer s H E).nox (defBody st) t ∧ t { nx := fun _ H' => Q .non H', rt := Q } (start N vs) H) : FnG P w K mg base (k + 1) f fd ps sp := by
  obtain ⟨oc, od, kV, doc, pm, an, cdv, ct, osl, efd, look, code⟩ := F.ex
  subst efd
  constructor
  · exact len
  intro A outer s H args us vs Q E guard room e0 bind rel want
  have inn : K.In s.heap := e0.mod.kin.keeps fun b o e => (e0.bs b o e).1
  have nolim : s.heap.NoLimit := e0.mod.nolimit.keeps fun b o e => (e0.bs b o e).1
  refine codeAny_call_function room.depth (inn _ _ look) rfl S.co S.gen rfl (PySem.W.codeRec_of inn code) (bind _ _ _ _ ?_)
  refine wpAny_newFunctionEnv_cells S.kind ?_ ?_
  · rintro ⟨n, v⟩ there
    have := S.par n (List.of_mem_zip there).1
    cases this with
    | inl q => exact .inl q
    | inr q => exact .inr ⟨q, PySem.W.cellsFrom_some _ _ _ (.inl q)⟩
  · intro env eenv s1 laid
    subst eenv
    refine ⟨nolim.keeps laid.toInCall.keep, codeAny_func ?_⟩
    obtain ⟨t, der, goal⟩ := hb cdv A outer s H vs Q E guard (room.deeper _) want
    have I := inv_start (CX := CX0) (E := E) S room.hd e0 (len _ _ _ _ want) rel laid
    refine wpAny_mono (der.nox.run [] s1 (start N vs) H _ I goal) (fun out s' got => ?_) fun e s' got => got
    match out, got with
    | .ret u, ⟨v, σ', H', J, rv, q⟩ => exact ⟨v, H', J.os, J.bare, J.base, J.hok, rv, q⟩
    | .next, ⟨σ', H', J, q⟩ => exact ⟨V.non, H', J.os, J.bare, J.base, J.hok, rfl, q⟩
    | .brk, ⟨_, _, _, q⟩ => exact q.elim
    | .cont, ⟨_, _, _, q⟩ => exact q.elim
end
section
variable {X : Cx} {k : Nat} {f : Addr} {fd : FuncData} {ps : List Str} {sp : Sp} {x : Str} {p pos : Pos} {e : Expr} {es : List Expr} {t : TA}
theorem pe_callG (F : FnG X.prog X.w X.K X.mg X.base k f fd ps sp) (gu : X.A.guards = some []) (hr : Room k X.A) (hg : Gl X x) (hm : X.mg x = some (.ref f)) (hk : PySem.W.keepIn X.K (.ref f) = true) (hb : Binds X.K fd ps [])
    (ha : PA X (e :: es) t) (hdb : (x == ("__debug__" : Str)) = false := by decide) (he : starEach (e :: es) X.env = (false, eval e X.env) :: starEach es X.env := by rfl) (hpl : (backTo pos (starEach es X.env)).any (·.1) = false := by rfl) :
    PE X (.Call (.Name x p) (e :: es) [] pos) (tCall sp [] E0 t) := by
  constructor
  intro pins s σ H Q I want
  refine wpAny_Call_Name_kw (ld_glob I hg hm ?_ hdb)
  refine PySem.W.callWith_K (h₀ := X.base) I.ok.mod.kin hk (thn (ha.run pos pins s σ H _ I want) ?_) he hpl
  rintro us s1 ⟨vs, H1, I1, rel, q⟩
  refine ⟨I1.kIn, ?_⟩
  have q : sp vs H1 Q E0 := by
    have q : sp (vs ++ []) H1 Q E0 := q
    rw [List.append_nil] at q
    exact q
  have b := hb s1 us I1.kIn (by rw [List.append_nil, ← rel.length]; exact F.len _ _ _ _ q)
  rw [List.append_nil] at b
  refine wpAny_call (codeAny_mono (F.run X.A X.stack s1 H1 ⟨us, []⟩ us vs Q E0 gu hr I1.env0 b rel q) ?_)
  rintro (e | out) s' got
  · exact got.elim
  · match out, got with
    | .ret u, got => exact I1.after got
    | .next, got => exact got.elim
    | .brk, got => exact got.elim
    | .cont, got => exact got.elim
/-- repr of data at any depth -/
theorem call_repr_data (gu : X.A.guards = some []) (room : ∃ k, Room k X.A) : CallR X (.builtin "repr") (fun xs H Q => ∃ a d, xs = [.ref a] ∧ Dp X.K H (.ref a) d ∧ PyData.showable d = true ∧ PyData.hasDict d = false ∧ d.depth ≤ 60 ∧ d.shown.length ≤ sizeLine ∧ Q (.str d.shown) H) := by
  intro pins s σ H xs us Q I rel want
  obtain ⟨a, d, rfl, data, sh, nd, dep, len, q⟩ := want
  obtain ⟨u, rfl, ru⟩ := vals1 rel
  obtain ⟨as, reads⟩ := Dp.reads I d _ u data ru
  cases ru
  obtain ⟨k, room⟩ := room
  have un := room.un
  exact repr_of_reads' reads sh (PyData.noDict_hsm nd) gu (by omega) (fun _ _ e => e) (fun h' v tk keep => ⟨.str d.shown, H, I.kept keep, ⟨_, rfl⟩, q⟩) len
end
/-! ### the law's own call, at the caller's place -/
theorem law_at {P : Program} {w : World} {K : PySem.W.Frag} {mg mb : Str → Option Value} {k : Nat} {fa a : Addr} {fd : FuncData} {x : Str} {sp : Sp} {s₁ : Shared} {vs : List Value} {ns : List Int}
    (KX : K.In s₁.heap) (hns : s₁.heap.Ns mainGlobals mg) (hb : s₁.heap.Ns builtinsNs mb) (hbb : ∀ x : Str, x ≠ "__name__" → mb x = bootBuiltins x) (hlim : s₁.heap.NoLimit) (hg : s₁.gens = #[])
    (ha : s₁.heap.get? a = some { cls := .type "list", data := .seq vs.toArray }) (hi : IntsAre vs ns) (hl : ns.length ≤ sizeLine) (hr : Room k callerA)
    (F : ∀ base : Heap, K.In base → base.Ns mainGlobals mg → FnG P w K mg base k fa fd [x] sp) (hbind : ∀ (s : Shared) (u : Value), BindsTo s fd ⟨[u], []⟩ [(x, u)])
    (hsp : ∀ H : Hp, SqL K H a (ns.map V.int) → sp [.ref a] H (fun v _ => v = .bl true) E0) :
    codeAny (model P w) callerA (.call (.ref fa) ⟨[.ref a], []⟩) (fun r s' => r = .ok (.ret (.bool true)) ∧ OldK s₁.heap s'.heap ∧ s'.os = s₁.os ∧ AllBare s'.gens) s₁ := by
  have ivs := vals_ints hi
  -- what is tracked: the script, if the module does not hold it itself
  obtain ⟨H, seq, ok, only, free⟩ : ∃ H : Hp, SqL K H a (ns.map V.int) ∧ HOk P w H s₁.heap ∧ (∀ b u, H b = some u → b = a ∧ u = .frz { cls := .type "list", data := .seq vs.toArray } (.lst (ns.map V.int))) ∧ ∀ b u, H b = some u → K.lookup b = none := by
    cases look : K.lookup a with
    | some o =>
      have same := KX a o look
      rw [ha] at same
      injection same with same
      subst same
      have empty : ∀ {u : HO}, (none : Option HO) = some u → False := fun z => nomatch z
      refine ⟨fun _ => none, .inr ⟨_, vs.toArray, _, look, rfl, rfl, rfl, ?_, ?_⟩, fun b u z => (empty z).elim, fun b u z => (empty z).elim, fun b u z => (empty z).elim⟩
      · rw [List.size_toArray, hi.length]
        exact hl
      · simpa using ivs
    | none =>
      have at_a : ∀ b u, (fun b => if b = a then some (HO.frz { cls := .type "list", data := .seq vs.toArray } (.lst (ns.map V.int))) else none : Hp) b = some u → b = a ∧ u = .frz { cls := .type "list", data := .seq vs.toArray } (.lst (ns.map V.int)) := by
        intro b u z
        by_cases e : b = a
        · have z := (if_pos e).symm.trans z
          exact ⟨e, (Option.some.inj z).symm⟩
        · exact nomatch (if_neg e).symm.trans z
      refine ⟨_, .inl (.inr ⟨_, if_pos rfl⟩), fun b u z => ?_, at_a, fun b u z => ?_⟩
      · obtain ⟨rfl, rfl⟩ := at_a b u z
        exact ⟨ha, by rw [List.length_map]; exact hl, vs, _, ivs, ha⟩
      · rw [(at_a b u z).1]
        exact look
  have stays : ∀ {b : Addr} {o : Obj}, s₁.heap.get? b = some o → (∀ u, H b ≠ some u) → (hidT s₁.heap H).get? b = some o := fun {b o} e no => hidT_get e (by
    cases z : H b with
    | none => rfl
    | some u => exact (no u z).elim)
  have spaces : ∀ {b : Addr} {m : Str → Option Value}, s₁.heap.Ns b m → (hidT s₁.heap H).Ns b m := by
    rintro b m ⟨o, es, ep, there, data, rest⟩
    refine ⟨o, es, ep, stays there fun u z => ?_, data, rest⟩
    rw [(only b u z).1, ha] at there
    injection there with there
    subst there
    exact nomatch data
  have inn : K.In (hidT s₁.heap H) := fun b o e => stays (KX b o e) fun u z => by
    rw [free b u z] at e
    exact nomatch e
  have mod : Mod K mg (hidT s₁.heap H) := by
    obtain ⟨mc, c1, c2⟩ := hlim
    exact ⟨inn, spaces hns, ⟨mb, spaces hb, hbb⟩, mc, spaces c1, c2⟩
  have e0 : Env0 P w K mg (hidT s₁.heap H) callerA [] s₁ H := by
    refine ⟨rfl, mod, fun b o e => of_hidT e, Nat.le_of_eq (hidT_size _ _), trivial, ?_, ok, .of_eq hg⟩
    intro b q
    exact absurd q (List.not_mem_nil (a := b))
  refine codeAny_mono ((F _ inn (spaces hns)).run callerA [] s₁ H ⟨[.ref a], []⟩ [.ref a] [.ref a] _ _ rfl hr e0 (hbind s₁ (.ref a)) (.cons rfl .nil) (hsp H seq)) ?_
  rintro (e | out) s' got
  · exact got.elim
  · match out, got with
    | .next, got => exact got.elim
    | .brk, got => exact got.elim
    | .cont, got => exact got.elim
    | .ret u, ⟨v, H', os, bare, un, ok', rel, q⟩ =>
      have q : v = V.bl true := q
      subst q
      have rel : u = Value.bool true := rel
      subst rel
      refine ⟨rfl, .of_keep fun b o e => ?_, os, bare⟩
      cases z : H b with
      | none => exact un.keep b o e z (List.not_mem_nil (a := b)) (List.not_mem_nil (a := b))
      | some u =>
        obtain ⟨rfl, rfl⟩ := only b u z
        have now := (ok' _ _ (un.frzs _ _ _ z)).1
        rw [ha] at e
        injection e with e
        rw [← e]
        exact now
theorem walk_at_law {l : PySem.W.OpenLaw} {k : Nat} {q : Program} {loose : List Str} {XP : (Str → Option Value) → Heap → Prop} {YP : World → Heap → Prop} {d : DefRec} {K : Params → PySem.W.Frag} {sp : PySem.W.Frag → Sp} {x : Str}
    (hn : l.most = some 63) (hdf : d.params.defaults = []) (hr : Room k callerA) (hY : ∀ (w : World) (h : Heap), YP w h → (K w.params).In h)
    (F : ∀ (w : World) (mg : Str → Option Value) (fa : Addr) (h : Heap), (K w.params).In h → h.Ns mainGlobals mg → mg d.name = some (.ref fa) →
      ∃ fd : FuncData, (∀ (s : Shared) (u : Value), BindsTo s fd ⟨[u], []⟩ [(x, u)]) ∧ ∀ base : Heap, (K w.params).In base → base.Ns mainGlobals mg → FnG l.prog w (K w.params) mg base k fa fd [x] (sp (K w.params)))
    (hsp : ∀ (K : PySem.W.Frag) (H : Hp) (a : Addr) (ns : List Int), ns.length ≤ 63 → SqL K H a (ns.map V.int) → sp K [.ref a] H (fun v _ => v = .bl true) E0) :
    PySem.W.WalkO q loose XP YP l.row.toRowW d [] (fun f vs => PySem.call f vs) := by
  refine Att.attach_call hn hdf ?_
  intro w s₀ s₁ mg mb fa o pm cd doc a vs ns G Y ho hd hcd hmg hobj hints hlen hg
  obtain ⟨fd, bind, each⟩ := F w mg fa _ (hY w _ Y) G.T.g hmg
  exact law_at (hY w _ Y) G.T.g G.T.b G.T.builtins G.T.nolimit hg hobj hints (Nat.le_trans hlen (by decide)) hr each bind fun H sq => hsp (K w.params) H a ns hlen sq
end Sm

set_option Elab.async false
set_option linter.all false
set_option maxRecDepth 100000
set_option maxHeartbeats 4000000
namespace Sm
open PySem PySem.Spec PyProof.Rows L2
section
variable {P : Program} {w : World} {K : PySem.W.Frag} {mg : Str → Option Value} {base : Heap}
def Df (K : PySem.W.Frag) (mg : Str → Option Value) (x : Str) (st : Stmt) (ps : List Str) : Prop :=
  ∃ (f : Addr) (fd : FuncData), Fun K x x st f fd ∧ mg x = some (.ref f) ∧ Binds K fd ps []
def Cal (P : Program) (w : World) (K : PySem.W.Frag) (mg : Str → Option Value) (base : Heap) (x : Str) (ps : List Str) (k : Nat) (sp : Sp) : Prop :=
  ∃ (f : Addr) (fd : FuncData), FnOk P w K mg base CX0 k f fd ps sp ∧ mg x = some (.ref f) ∧ PySem.W.keepIn K (.ref f) = true ∧ Binds K fd ps []
theorem Df.cal {x : Str} {st : Stmt} {N ps : List Str} {k : Nat} {sp : Sp} (D : Df K mg x st ps) (S : FnScope N ps (defScope st)) (len : ∀ vs H Q E, sp vs H Q E → vs.length = ps.length)
    (hbody : ∀ (f : Addr) (cdv : Value) (A : Around) (outer : List Env) (s : Shared) (H : Hp) (vs : List V) (Q : VK) (E : XK), Room k (A.deeper (envOfC x (defScope st) s.heap.objs.size f cdv)) → sp vs H Q E →
      ∃ t, PSs (cxOf CX0 P w K mg base N x (defScope st) f cdv A outer s H E).nox (defBody st) t ∧ t { nx := fun _ H' => Q .non H', rt := Q } (start N vs) H) : Cal P w K mg base x ps (k + 1) sp := by
  obtain ⟨f, fd, F, m, b⟩ := D
  exact ⟨f, fd, F.ok S len (fun cdv A outer s H vs Q E hr h => hbody f cdv A outer s H vs Q E hr h), m, F.kp, b⟩
theorem same_upd {H : Hp} {p : Addr} {o : HO} (h : H p = none) : Same H (upd H p o) := fun b x e => by
  rw [upd_ne (ne_of_none e h)]
  exact e
theorem iteP {p A B : Prop} [Decidable p] (h : p) (a : A) : if decide p = true then A else B := by
  rw [decide_eq_true h]
  exact iteT a
theorem iteN {p A B : Prop} [Decidable p] (h : ¬ p) (b : B) : if decide p = true then A else B := by
  rw [decide_eq_false h]
  exact iteF b
theorem iteNP {p A B : Prop} [Decidable p] (h : p) (b : B) : if (!decide p) = true then A else B := by
  rw [decide_eq_true h]
  exact iteF b
theorem iteNN {p A B : Prop} [Decidable p] (h : ¬ p) (a : A) : if (!decide p) = true then A else B := by
  rw [decide_eq_false h]
  exact iteT a
theorem ite3 {p A B : Prop} [Decidable p] (h1 : p → A) (h2 : ¬ p → B) : if decide p = true then A else B := by
  by_cases h : p
  · exact iteP h (h1 h)
  · exact iteN h (h2 h)
theorem fmod_pos {a b : Int} (h : 0 < b) : a.fmod b = a % b := Int.fmod_eq_emod_of_nonneg a (by omega)
end
/-! ### the deck -/
structure Deck (H : Hp) (p l : Addr) (n : Int) : Prop where
  hp : H p = some (.lst [.ref l, .int n])
  hl : ∃ cells : List Int, H l = some (.lst (cells.map V.int)) ∧ (∀ c ∈ cells, 0 ≤ c) ∧ cells.length ≤ 63
theorem deck_ne {l : Addr} {n : Int} {cells : List Int} : HO.lst [.ref l, .int n] ≠ HO.lst (cells.map V.int) := by
  intro q
  injection q with q
  cases cells with
  | nil => cases q
  | cons c r => cases (List.cons.inj q).1
/-- all but the deck is as it was -/
def Fr (p l : Addr) (H H' : Hp) : Prop := ∀ b o, b ≠ p → b ≠ l → H b = some o → H' b = some o
theorem Fr.trans {p l : Addr} {H H1 H2 : Hp} (a : Fr p l H H1) (b : Fr p l H1 H2) : Fr p l H H2 := fun c o h1 h2 h => b c o h1 h2 (a c o h1 h2 h)
theorem Same.fr {p l : Addr} {H H' : Hp} (s : Same H H') : Fr p l H H' := fun b o _ _ h => s b o h
theorem Deck.same {H H' : Hp} {p l : Addr} {n : Int} (D : Deck H p l n) (s : Same H H') : Deck H' p l n := by
  obtain ⟨cells, hl, hc⟩ := D.hl
  exact ⟨s _ _ D.hp, cells, s _ _ hl, hc⟩
theorem Fr.tup {H H' : Hp} {p l b : Addr} {n : Int} {xs : List V} (f : Fr p l H H') (D : Deck H p l n) (h : H b = some (.tup xs)) : H' b = some (.tup xs) := by
  obtain ⟨cells, hl, hc⟩ := D.hl
  exact f b _ (ne_of h D.hp (by intro q; cases q)) (ne_of h hl (by intro q; cases q)) h
def sp_l_deck (K : PySem.W.Frag) : Sp := fun vs H Q _ => ∃ (a : Addr) (ns : List Int), vs = [.ref a] ∧ SqL K H a (ns.map V.int) ∧ ns.length ≤ 63 ∧ ∀ H' p l, Same H H' → Deck H' p l 0 → Q (.ref p) H'
def sp_l_draw (K : PySem.W.Frag) : Sp := fun vs H Q _ => ∃ (p l : Addr) (n m : Int), vs = [.ref p, .int m] ∧ Deck H p l n ∧ 0 ≤ n ∧ n ≤ 1000000 ∧ 0 < m ∧ m ≤ 1000000000000000000000000000000000000000000000000000000000000 ∧
  ∀ r H', 0 ≤ r → r < m → Fr p l H H' → Deck H' p l (n + 1) → Q (.int r) H'
def sp_l_one (K : PySem.W.Frag) : Sp := fun vs H Q _ => ∃ (p l b : Addr) (n : Int) (xs : List V), vs = [.ref p, .ref b] ∧ Deck H p l n ∧ 0 ≤ n ∧ n ≤ 1000000 ∧ H b = some (.lst xs) ∧ b ≠ p ∧ b ≠ l ∧ 0 < xs.length ∧ xs.length ≤ 1000 ∧
  ∀ x H', x ∈ xs → Fr p l H H' → Deck H' p l (n + 1) → Q x H'
theorem cut63 {ns : List Int} (h : ns.length ≤ 63) : cutV (ns.map V.int) none (some 63) = ns.map V.int := by
  unfold cutV
  rw [HT.sIx_none, show HT.sIx (ns.map V.int).length (ns.map V.int).length (some 63) = min 63 (ns.map V.int).length from HT.sIx_nat _ _ 63]
  rw [List.length_map, Nat.min_eq_right h, List.drop_zero]
  exact List.take_of_length_le (by rw [List.length_map]; omega)
def absI (n : Int) : Int := if n < 0 then -n else n
theorem absI_pos (n : Int) : 0 ≤ absI n := by
  unfold absI
  split <;> omega
theorem div_draw {c m : Int} (h0 : 0 < m) (h : m ≤ 1000000000000000000000000000000000000000000000000000000000000) : CDivW c m :=
  wide_div (b := 300) h0 (by omega) (by decide) (by decide)
theorem cut_all {xs : List V} {n : Nat} : cutV xs none (some (n : Int)) = xs.take n := by
  unfold cutV
  rw [HT.sIx_none, HT.sIx_nat, List.drop_zero, Nat.sub_zero]
  rcases Nat.le_total n xs.length with h | h
  · rw [Nat.min_eq_left h]
  · rw [Nat.min_eq_right h, List.take_length, List.take_of_length_le h]
theorem ne_new {H : Hp} {p b : Addr} {o : HO} (h : H p = some o) (n : H b = none) : b ≠ p := (ne_of_none h n).symm
/-- what the deck's second list is not -/
theorem Deck.lne {H : Hp} {p l b : Addr} {n : Int} (D : Deck H p l n) (h : H b = none) : b ≠ p ∧ b ≠ l := by
  obtain ⟨cells, hl, hc⟩ := D.hl
  exact ⟨ne_new D.hp h, ne_new hl h⟩
section
variable {X : Cx}
/-- repr of an int or None -/
theorem call_repr_some : CallR X (.builtin "repr") (fun xs H Q => (∃ i, xs = [.int i] ∧ i.natAbs.log2 < 1920 ∧ Q (.str (toString i)) H) ∨ (xs = [.non] ∧ Q (.str "None") H)) := by
  intro pins s σ H xs us Q I r h
  rcases h with ⟨i, rfl, hz, q⟩ | ⟨rfl, q⟩
  · obtain ⟨u, rfl, t, rfl⟩ := vals1 r
    exact PySem.P.repr_of_int hz ⟨.str _, H, I.tok _, ⟨_, rfl⟩, q⟩
  · obtain ⟨u, rfl, rfl⟩ := vals1 r
    exact PySem.P.repr_of_none ⟨.str _, H, I.tok _, ⟨_, rfl⟩, q⟩
def dataI (ns : List Int) : PyData := .list (ns.map PyData.int)
theorem dp_ints {K : PySem.W.Frag} {H : Hp} : ∀ ns : List Int, DpAll K H (ns.map V.int) (ns.map PyData.int)
  | [] => .nil
  | n :: ns => .cons (.int n) (dp_ints ns)
theorem showable_ints : ∀ {ns : List Int}, (∀ n ∈ ns, n.natAbs.log2 < 1920) → PyData.showableAll (ns.map PyData.int) = true
  | [], _ => rfl
  | n :: ns, h => by
    have a := h n (List.mem_cons_self ..)
    have b := showable_ints (ns := ns) fun m hm => h m (List.mem_cons_of_mem _ hm)
    simp only [List.map_cons, PyData.showableAll, PyData.showable, decide_eq_true a, b, Bool.and_self]
theorem hasDict_ints : ∀ ns : List Int, PyData.hasDictAll (ns.map PyData.int) = false
  | [] => rfl
  | n :: ns => by
    simp only [List.map_cons, PyData.hasDictAll, PyData.hasDict, hasDict_ints ns, Bool.or_self]
theorem depth_ints : ∀ ns : List Int, PyData.depthAll (ns.map PyData.int) ≤ 1
  | [] => by simp [PyData.depthAll]
  | n :: ns => by
    have := depth_ints ns
    simp only [List.map_cons, PyData.depthAll, PyData.depth]
    omega
theorem shown_ints : ∀ {ns : List Int}, (∀ n ∈ ns, n.natAbs.log2 < 1920) → ((PyData.shownAll (ns.map PyData.int)).map (·.length)).sum ≤ 1921 * ns.length ∧ (PyData.shownAll (ns.map PyData.int)).length = ns.length
  | [], _ => by simp [PyData.shownAll]
  | n :: ns, h => by
    have a := PyProof.Rows.int_text_len_1921 (h n (List.mem_cons_self ..))
    obtain ⟨b, c⟩ := shown_ints (ns := ns) fun m hm => h m (List.mem_cons_of_mem _ hm)
    simp only [List.map_cons, PyData.shownAll, PyData.shown, List.sum_cons, List.length_cons]
    omega
/-- repr of a list of ints -/
theorem call_repr_ints (gu : X.A.guards = some []) (room : ∃ k, Room k X.A) : CallR X (.builtin "repr") (fun xs H Q => ∃ a ns, xs = [.ref a] ∧ SqL X.K H a (ns.map V.int) ∧ ns.length ≤ 5000 ∧ (∀ n ∈ ns, n.natAbs.log2 < 1920) ∧ Q (.str (dataI ns).shown) H) := by
  intro pins s σ H xs us Q I r h
  obtain ⟨a, ns, rfl, hS, len, small, q⟩ := h
  refine call_repr_data gu room pins s σ H _ us Q I r ⟨a, dataI ns, rfl, .lst hS (dp_ints ns), ?_, ?_, ?_, ?_, q⟩
  · unfold dataI
    simp only [PyData.showable, showable_ints small]
  · unfold dataI
    simp only [PyData.hasDict, hasDict_ints]
  · have := depth_ints ns
    unfold dataI
    simp only [PyData.depth]
    omega
  · obtain ⟨s1, s2⟩ := shown_ints small
    have := listText_len_le (PyData.shownAll (ns.map PyData.int))
    unfold dataI
    simp only [PyData.shown]
    rw [sizeLine_eq]
    omega
end
end Sm

set_option Elab.async false
set_option linter.all false
set_option maxRecDepth 100000
set_option maxHeartbeats 4000000
namespace Sm
open PySem PySem.Spec PyProof.Rows L2
/-- isinstance of the exception that the suite holds, with its dict: one class, or a tuple of classes just laid -/
def rIsX (K : PySem.W.Frag) (cls : Value) (d : Option Addr) (a : Addr) : List V → Hp → VK → Prop := fun xs H Q => ∃ (D dd : Addr) (fs : List (Str × V)), cls = .ref D ∧ d = some dd ∧ H dd = some (.xd fs) ∧ ExcC K D ∧
  ((∃ (c : V) (cv : Value) (b : Bool), xs = [.ref a, c] ∧ ClsV c cv ∧ PySem.W.kitOne K (.ref D) cv = some b ∧ Q (.bl b) H) ∨
   ∃ (tp : Addr) (cs : List V) (us : List Value) (b : Bool), xs = [.ref a, .ref tp] ∧ H tp = some (.tup cs) ∧ Paired ClsV cs us ∧ PySem.W.kitAny K (.ref D) us = some b ∧ Q (.bl b) H)
theorem call_isX {X : Cx} {a : Addr} {cls : Value} {d : Option Addr} {oe : Obj} {pn : List (Addr × Obj)} (hz : Zc cls d oe) (hf : ∃ vs, oe.data = .fields vs) : CallR (X.suite a ((a, oe) :: pn)) (.builtin "isinstance") (rIsX X.K cls d a) := by
  intro pins s σ H xs us Q I r h
  obtain ⟨D, dd, fs, rfl, rfl, ea, C, h⟩ := h
  obtain ⟨ha, _⟩ := I.pin (a, oe) (List.mem_append_left _ List.mem_cons_self)
  obtain ⟨vs, hd⟩ := hf
  have hx : ObjOk X.prog X.w H s.heap dd (.xd fs) := I.hok dd _ ea
  obtain ⟨mA, hns, hr⟩ := hx
  obtain ⟨od, ho, hl⟩ := lookIn_ns hns
  have J : PySem.W.InstAt s.heap a oe D (some od) := ⟨ha, hz.1, by unfold PySem.W.notCls; rw [hd] <;> rfl, by rw [hz.2]; exact ho⟩
  obtain ⟨cd, hc, _⟩ := PySem.W.any_some C.hd
  have Z := PySem.W.kitx_exc (x := a) (ox := oe) (od := some od) (by rw [hc]; rfl) C.hg C.hk C.hs C.ha C.hn C.ht C.hm
  rcases h with ⟨c, cv, b, rfl, k, e, q⟩ | ⟨tp, cs, ws, b, rfl, hT, k, e, q⟩
  · obtain ⟨u1, u2, rfl, r1, r2⟩ := vals2 r
    cases (show u1 = Value.ref a from r1)
    cases k.eq r2
    exact PySem.W.kia_one Z I.kIn J e (fun z => nomatch z) fun tk => ⟨.bl b, H, I.kept (t' := tk) fun _ _ z => z, rfl, q⟩
  · obtain ⟨u1, u2, rfl, r1, r2⟩ := vals2 r
    cases (show u1 = Value.ref a from r1)
    cases (show u2 = Value.ref tp from r2)
    obtain ⟨_, its, rv, o, h1, h2, n, h3⟩ := (show ObjOk X.prog X.w H s.heap tp (.tup cs) from I.hok tp _ hT)
    have e3 := ClsV.all k rv
    subst e3
    obtain ⟨oc, od', dt, sl⟩ := o
    simp only at h2 h3
    subst h2 h3
    exact PySem.W.kia_tup Z I.kIn J h1 e (fun z => nomatch z) fun tk => ⟨.bl b, H, I.kept (t' := tk) fun _ _ z => z, rfl, q⟩
theorem kit_own {K : PySem.W.Frag} {D C : Addr} {b : Bool} (h1 : PySem.W.isClsIn K C = true) (h2 : PySem.W.typeIn K (.ref C) = some (.type "type")) (h3 : PySem.W.subIn K (.ref D) (.ref C) = some b) (h4 : PySem.W.subIn K (.ref D) (.ref D) = some true) : PySem.W.kitOne K (.ref D) (.ref C) = some b := by
  unfold PySem.W.kitOne
  by_cases e : D = C
  · subst e
    rw [h4] at h3
    rw [if_pos (beq_self_eq_true _)]
    exact h3
  · rw [if_neg (fun q => e (Value.ref.inj (beq_iff_eq.mp q)))]
    have h1' : (PySem.W.clsIn K C).isSome = true := h1
    have z : ((PySem.W.clsIn K C).isSome && PySem.W.typeIn K (.ref C) == some (.type "type")) = true := by rw [h1', h2] <;> rfl
    show (if ((PySem.W.clsIn K C).isSome && PySem.W.typeIn K (.ref C) == some (.type "type")) = true then PySem.W.subIn K (.ref D) (.ref C) else none) = some b
    rw [if_pos z]
    exact h3
theorem kit_valerr {K : PySem.W.Frag} {D : Addr} {b : Bool} (h : PySem.W.subIn K (.ref D) (.type "ValueError") = some b) : PySem.W.kitOne K (.ref D) (.type "ValueError") = some b := by
  have q : ((Value.ref D) == (Value.type "ValueError")) = false := beq_eq_false_iff_ne.mpr fun z => nomatch z
  unfold PySem.W.kitOne
  rw [if_neg (by rw [q]; exact Bool.false_ne_true)]
  show (if PySem.W.kitMeta "ValueError" = true then PySem.W.subIn K (.ref D) (.type "ValueError") else none) = some b
  rw [if_pos (by decide +kernel)]
  exact h
theorem kit_cons_false {K : PySem.W.Frag} {t c : Value} {cs : List Value} {b : Bool} (h : PySem.W.kitOne K t c = some false) (hr : PySem.W.kitAny K t cs = some b) : PySem.W.kitAny K t (c :: cs) = some b := by
  unfold PySem.W.kitAny
  rw [h]
  exact hr
/-- an own exception class with one field, made by its own __init__ -/
structure XcTxt (K : PySem.W.Frag) (mg : Str → Option Value) (nm fl : Str) (C fI : Addr) : Prop where
  g : mg nm = some (.ref C)
  oex : OexC K C
  no : PySem.W.findIn K (.ref C) fl = some none
  iC : PySem.W.findIn K (.ref C) "__init__" = some (some (.ref fI))
  tI : PySem.W.typeIn K (.ref fI) = some (.type "function")
  xf : XfC K C
  ec : ExcC K C
/-- C(e), told plainly: the new exception's dict holds the field -/
def tMkF (C : Addr) (fl : Str) (ta : TA) : L2.St → Hp → XK → Prop := fun σ H Q => ta σ H fun vs H1 => ∃ v, vs = [v] ∧ ∀ d, H1 d = none → Q (.ref C) (some d) (upd H1 d (.xd [(fl, v)]))
def sp_init (K : PySem.W.Frag) (fl : Str) : Sp := fun vs H Q _ => ∃ (a C : Addr) (v : V), vs = [.ref a, v] ∧ OexC K C ∧ PySem.W.findIn K (.ref C) fl = some none ∧ H a = some (exo a C none) ∧ ∀ dx, H dx = none → dx ≠ a → Q .non (upd (upd H dx (exd dx [(fl, v)])) a (exo a C (some dx)))
theorem xc_mk {C : Addr} {fl : Str} {K : PySem.W.Frag} {ta : TA} {σ : L2.St} {H : Hp} {Q : XK} (T : OexC K C) (no : PySem.W.findIn K (.ref C) fl = some none)
    (h : ta σ H fun vs H1 => ∃ v, vs = [v] ∧ ∀ d H2, Same H1 H2 → H2 d = some (.xd [(fl, v)]) → Q (.ref C) (some d) H2) (mono : ∀ {A B : List V → Hp → Prop}, (∀ vs H1, A vs H1 → B vs H1) → ta σ H A → ta σ H B) : tMkO C (sp_init K fl) [] ta σ H Q := by
  refine mono ?_ h
  rintro vs H1 ⟨v, rfl, k⟩
  refine ⟨by show 1 ≤ 1000; decide, fun a na => ⟨a, C, v, rfl, T, no, upd_same, fun dx nd da => ⟨rfl, dx, [(fl, v)], upd_same, ?_, ?_, ?_⟩⟩⟩
  · rw [upd_ne da, upd_same]
  · rw [upd_ne da] at nd
    exact nd
  · have nd1 : H1 dx = none := by
      rw [upd_ne da] at nd
      exact nd
    refine k dx _ (fun b o hb => ?_) upd_same
    rw [upd_ne (ne_of_none hb nd1), del_ne (ne_of_none hb na), upd_ne (ne_of_none hb na), upd_ne (ne_of_none hb nd1), upd_ne (ne_of_none hb na)]
    exact hb
end Sm

set_option Elab.async false
set_option linter.all false
set_option maxRecDepth 100000
set_option maxHeartbeats 4000000
namespace Sm
open PySem PySem.Spec PyProof.Rows L2
/-! ### own exception classes over LookupError, whose __init__ stores one field -/
abbrev luTail : List Value := [.type "LookupError", .type "Exception", .type "BaseException", .type "object"]
/-- what the written part says of such a class -/
structure OexL (K : PySem.W.Frag) (C : Addr) : Prop where
  obj : ∃ nm q N bs bm sn sub ab col dd k0 k1 k2 k3 k5, K.lookup C = some (excClassObj nm q C N bs bm true sn sub ab col dd k0 k1 k2 k3 k5 "LookupError.__new__") ∧ PySem.W.excTail luTail bm = true
  facts : PySem.W.findIn K (.ref C) "__setattr__" = some (some (.builtin "object.__setattr__")) ∧ PySem.W.subIn K (.ref C) (.type "BaseException") = some true ∧ PySem.W.typeIn K (.ref C) = some (.type "type") ∧ PySem.W.keepIn K (.ref C) = true
section
open Builtin Builtin.ObjectAttr
variable {prog : Program} {w : World} {A : Around} {hp : Heap} {g : Array GenState} {dw : Drawn} {t : Nat} {os : OsState} {R : Result → Shared → Prop}
/-- object.__setattr__(x, name, v), x an exception without a dict whose class stands over a built-in one -/
theorem lu_store {K : PySem.W.Frag} {B : String} {bmB : List Value} {name : Str} {tk : Tok} {v : Value} {x C : Addr} {fv : Array Value} {cd : ClassData} (SF : StoreFacts B bmB "object.__setattr__" "object")
    (kin : K.In hp) (there : hp.get? x = some { cls := .ref C, data := .fields fv }) (known : PySem.W.clsIn K C = some cd) (over : PySem.W.excOver K C bmB = true) (dict : cd.hasDict = true) (no : PySem.W.findIn K (.ref C) name = some none)
    (told : ∀ h' tk' dx, (∀ b o, b ≠ x → hp.get? b = some o → h'.get? b = some o) → hp.objs.size ≤ dx → dx ≠ x → h'.get? x = some { cls := .ref C, dict := some dx, data := .fields fv } → h'.Ns1 dx (fun y => if y = name then some v else none) → R (.ok (.ret .none)) ⟨h', g, dw, tk', os⟩) :
    codeAny (model prog w) A (.call (.builtin "object.__setattr__") ⟨[.ref x, .str name tk, v], []⟩) R ⟨hp, g, dw, t, os⟩ := by
  have at_ : PySem.W.InstAt hp x { cls := .ref C, data := .fields fv } C none := ⟨there, rfl, rfl, trivial⟩
  have taker : PySem.W.takerIn K C name = some none := by unfold PySem.W.takerIn; rw [no]; rfl
  refine PySem.W.osa_openX (s := ⟨hp, g, dw, t, os⟩) SF kin at_ over taker fun b => ?_
  have apart : x ≠ hp.objs.size := Nat.ne_of_lt (Heap.lt_size there)
  have kls : PySem.W.Looks (model prog w) hp (classData C) cd := PySem.W.looks_clsIn kin known
  show wpAny _ _ (storeInOwnDict (.ref x) (.ref C) (.str name tk) name v b) _ _ _
  obtain ⟨n1, n2, n3, n4, n5, hd, n6, n7, n8, n9, n10⟩ := cd
  dsimp only at dict
  subst dict
  unfold storeInOwnDict ownDictForStores
  repeat (first | with_reducible refine PySem.HandSPX.store_in_new ?_ ?_ | with_reducible refine wpAny_loadPart_at there ?_ | with_reducible refine kls.at ?_ | wp_step)
  · exact ⟨_, #[], _, (Heap.get?_update_ne _ _ _ _ apart.symm).trans (Heap.get?_push_at rfl rfl), rfl, fun e he => absurd he (by simp), fun _ => rfl⟩
  · intro h' tk' names same
    have on : (hp.push { cls := .type "dict", data := .dict #[] }).get? x = some { cls := .ref C, data := .fields fv } := Heap.get?_push_of_some _ there
    refine told h' tk' hp.objs.size (fun b o hb ho => (same.2 b (Nat.ne_of_lt (Heap.lt_size ho))).trans ((Heap.get?_update_ne _ _ _ _ hb).trans (Heap.get?_push_of_some _ ho))) (Nat.le_refl _) apart.symm ((same.2 x apart).trans (Heap.get?_update_self _ on rfl)) names
end
/-- the abstract heap once the first field of the exception at a stands in its new dict at dx -/
theorem lu_un {fs : List Addr} {H : Hp} {hp h' : Heap} {a C dx : Addr} {f : Str} {y : V} (ea : H a = some (exo a C none)) (dn : hp.objs.size ≤ dx) (nd : H dx = none) (there : ∃ o, h'.get? a = some o)
    (keep : ∀ b o, b ≠ a → hp.get? b = some o → h'.get? b = some o) : Un fs [] H (upd (upd H dx (exd dx [(f, y)])) a (exo a C (some dx))) hp h' := by
  have other : ∀ {b : Addr}, H b = none → b ≠ a := fun {b} n z => by rw [z, ea] at n; cases n
  have young : ∀ {b : Addr} {o : Obj}, hp.get? b = some o → b ≠ dx := fun {b o} q => Nat.ne_of_lt (Nat.lt_of_lt_of_le (Heap.lt_size q) dn)
  constructor
  · intro b o q n _ _
    exact keep b o (other n) q
  · intro b o q n _ _
    exact ⟨o.slots, keep b o (other n) q⟩
  · intro b o q n _
    rw [upd_ne (other n), upd_ne (young q)]
    exact n
  · intro b o q _
    by_cases hb : b = a
    · subst hb; exact there
    · exact ⟨o, keep b o hb q⟩
  · intro b xs q
    rw [upd_ne (at_ne ea q exo_tup), upd_ne (ne_of_none q nd)]; exact q
  · intro b o v q
    rw [upd_ne (at_ne ea q exo_frz), upd_ne (ne_of_none q nd)]; exact q
  · intro b ps q
    exact ⟨#[], by rw [upd_ne (at_ne ea q exo_tbl), upd_ne (ne_of_none q nd), q]; simp⟩
section
variable {X : Cx} {pins : List (Addr × Obj)} {σ : L2.St} {H : Hp} {s : Shared} {a C : Addr} {f : Str} {y : V} {u : Value} {Q : Unit → Shared → Prop} {E : Value → Shared → Prop} {A : Around}
theorem lu_cls {K : PySem.W.Frag} {C : Addr} (T : OexL K C) : ∃ cd, PySem.W.clsIn K C = some cd ∧ cd.hasDict = true ∧ PySem.W.excOver K C luTail = true := by
  obtain ⟨nm, q, N, bs, bm, sn, sub, ab, col, dd, k0, k1, k2, k3, k5, hC, hbm⟩ := T.obj
  have known : PySem.W.clsIn K C = some { name := nm, bases := bs, mro := .ref C :: bm, ns := N, qualname := q, hasDict := true, slotNames := sn, subclasses := sub, abstract := ab, collection := col, hasDel := false } := by unfold PySem.W.clsIn; rw [hC] <;> rfl
  refine ⟨_, known, rfl, ?_⟩
  unfold PySem.W.excOver
  rw [known]
  show (C == C && PySem.W.excTail luTail bm) = true
  rw [hbm, beq_self_eq_true]
  rfl
/-- self.f = y in __init__ -/
theorem lu_ost (T : OexL X.K C) (I : Inv X pins σ H s) (e : H a = some (exo a C none)) (no : PySem.W.findIn X.K (.ref C) f = some none) (ry : RelV y u)
    (h : ∀ dx s', H dx = none → dx ≠ a → Inv X pins σ (upd (upd H dx (exd dx [(f, y)])) a (exo a C (some dx))) s' → Q () s') : wpAny (model X.prog X.w) A (setAttr (.ref a) f u) Q E s := by
  obtain ⟨cd, known, dict, over⟩ := lu_cls T
  obtain ⟨t1, ho⟩ := exo_at I.hok e
  obtain ⟨hp, g, d, t, os⟩ := s
  refine PySem.W.set_plain I.kIn (od := none) ⟨ho, rfl, rfl, trivial⟩ T.facts.1 (lu_store PySem.F.store_LookupError I.kIn ho known over dict no fun h' tk' dx k dn dne hx hn => ?_)
  have nd : H dx = none := I.hok.fresh dn
  refine h dx _ nd dne (I.un (t' := tk') (lu_un e dn nd ⟨_, hx⟩ k) fun b o q => ?_)
  by_cases hb : b = a
  · subst hb
    rw [upd_same] at q; cases q
    exact exo_ok hx
  rw [upd_ne hb] at q
  by_cases hd : b = dx
  · subst hd
    rw [upd_same] at q; cases q
    exact exd_ok hn (relO_put (fs := []) ry fun g => True.intro)
  rw [upd_ne hd] at q
  refine (I.hok b o q).stay (fun c v hc z => k c v ?_ z) (fun c hc => ?_) (fun c xs hc => ?_)
  · rcases hc with hc | hc
    · rw [hc]; exact hb
    · exact at_ne e hc exo_own
  · rw [upd_ne (at_ne e hc exo_own), upd_ne (ne_of_none hc nd)]; exact hc
  · rw [upd_ne (at_ne e hc exo_tup), upd_ne (ne_of_none hc nd)]; exact hc
end
/-- self.f = e -/
def tOsL (K : PySem.W.Frag) (f : Str) (to te : TE) : TS := fun D σ H => te σ H fun y H1 => to σ H1 fun x H2 => ∃ a C : Addr, x = .ref a ∧ OexL K C ∧ PySem.W.findIn K (.ref C) f = some none ∧ H2 a = some (exo a C none) ∧ ∀ dx, H2 dx = none → dx ≠ a → D.nx σ (upd (upd H2 dx (exd dx [(f, y)])) a (exo a C (some dx)))
section
variable {X : Cx} {o e : Expr} {es : List Expr} {to te : TE} {ta : TA} {f : Str} {p p' pos : Pos}
theorem ps_osL (ho : PE X o to) (he : PE X e te) (hs : swapsWith e (some (.Attribute o f p')) pos.line X.env = pure false := by rfl) : PS X (.Assign [.Attribute o f p'] e pos) (tOsL X.K f to te) := by
  refine ⟨fun pins s σ H D I h => plainObj_wpAny_Assign_Attribute (thn (he.run pins s σ H _ I h) ?_) hs⟩
  rintro v s1 ⟨y, H1, I1, r1, q1⟩
  refine thn (ho.run pins s1 σ H1 _ I1 q1) ?_
  rintro u s2 ⟨x, H2, I2, r2, a, C, rfl, T, no, ea, q⟩
  obtain rfl : u = Value.ref a := r2
  exact lu_ost T I2 ea no r1 fun dx s' n ne J => ⟨σ, _, J, q dx n ne⟩
/-- C(e) -/
theorem pmk_oexL {CX : CXT} {x : Str} {C fI : Addr} {k : Nat} {fd : FuncData} {ps : List Str} {sp : Sp} (T : OexL X.K C) (iC : PySem.W.findIn X.K (.ref C) "__init__" = some (some (.ref fI))) (tI : PySem.W.typeIn X.K (.ref fI) = some (.type "function"))
    (F1 : FnOk X.prog X.w X.K X.mg X.base CX k fI fd ps sp) (hr : Room (k + 1) X.A) (hb : Binds X.K fd ps []) (hx : Passes CX X (fun _ _ _ => False)) (hg : Gl X x) (hm : X.mg x = some (.ref C)) (ha : PA X (e :: es) ta)
    (hdb : (x == ("__debug__" : Str)) = false := by decide) (he : starEach (e :: es) X.env = (false, eval e X.env) :: starEach es X.env := by rfl) (hpl : (backTo pos (starEach es X.env)).any (·.1) = false := by rfl) :
    PMk X (.Call (.Name x p) (e :: es) [] pos) (tMkO C sp [] ta) := by
  intro pins s σ H Q I h
  obtain ⟨nm, q, N, bs, bm, sn, sub, ab, col, dd, k0, k1, k2, k3, k5, hC, hbm⟩ := T.obj
  obtain ⟨_, exc, typ, keep⟩ := T.facts
  refine wpAny_Call_Name_kw (ld_glob I hg hm (PySem.W.callWith_K (h₀ := X.base) I.ok.mod.kin keep (thn (ha.run pos pins s σ H _ I h) ?_) he hpl) hdb)
  rintro us s1 ⟨vs, H1, I1, r1, hz, q1⟩
  refine ⟨I1.kIn, ?_⟩
  show wpAny _ _ (call (.ref C) us) _ _ _
  obtain ⟨hp, g, dr, tk, os⟩ := s1
  generalize hn : hp.objs.size = n
  have old : hp.objs.size ≤ n + 1 := by omega
  have hq := q1 (n + 1) (I1.hok.fresh old)
  have kk : ∀ b o, hp.get? b = some o → ((hp.push (PySem.W.kdv_tup us)).push (PySem.HandSPX.excO C n)).get? b = some o := fun b o e => Heap.get?_push_of_some _ (Heap.get?_push_of_some _ e)
  have got : ((hp.push (PySem.W.kdv_tup us)).push (PySem.HandSPX.excO C n)).get? (n + 1) = some (PySem.HandSPX.excO C n) := by subst hn; heap_get
  have I2 : Inv X pins σ (upd H1 (n + 1) (exo (n + 1) C none)) ⟨(hp.push (PySem.W.kdv_tup us)).push (PySem.HandSPX.excO C n), g, dr, tk, os⟩ := I1.laid (t' := tk) (o := exo (n + 1) C none) kk old (exo_ok got)
  have r2 : Vals (V.ref (n + 1) :: (vs ++ [])) (Value.ref (n + 1) :: us) := .cons rfl (by rw [List.append_nil]; exact r1)
  have long : (Value.ref (n + 1) :: us).length = ps.length := r2.length.symm.trans (F1.len _ _ _ _ hq)
  have few : us.length ≤ sizeLine := by rw [← Paired.length r1, sizeLine_eq]; omega
  have ran := F1.run _ X.stack _ _ ⟨Value.ref (n + 1) :: us, []⟩ (Value.ref (n + 1) :: us) _ _ (fun _ _ _ => False) (hr.make C us []) (I2.env0.make C us []) (by have b := hb ⟨(hp.push (PySem.W.kdv_tup us)).push (PySem.HandSPX.excO C n), g, dr, tk, os⟩ (Value.ref (n + 1) :: us) I2.kIn (by rw [List.append_nil]; exact long); rw [List.append_nil] at b; exact b) r2 hq
  subst hn
  refine wpAny_call (PySem.HandSPX.call_own PySem.F.excBase_LookupError (fun Y => PySem.W.excTail_contains Y bm hbm) (I1.kIn _ _ hC) (PySem.W.looks_findIn I1.kIn iC) (fun self => PySem.W.bind_fn I1.kIn self tI) few (codeAny_mono ran ?_))
  rintro (er | fl) s' hq'
  · exact hx pins σ _ _ er s' I2 hq'
  match fl, hq' with
  | .next, z => exact False.elim z
  | .brk, z => exact False.elim z
  | .cont, z => exact False.elim z
  | .ret u, ⟨v, H2, os2, bare2, un2, hok2, rv, ev, d, fs, ea, ed, hd1, q2⟩ =>
    subst ev
    obtain ⟨h2, g2, d2, t2, os'⟩ := s'
    exact ⟨rv, mk_end (raises_own exc typ) I1 old kk un2 hok2 os2 bare2 ea ed hd1 q2⟩
end
/-- __init__(self, f): self.f = f -/
def sp_initL (K : PySem.W.Frag) (fl : Str) : Sp := fun vs H Q _ => ∃ (a C : Addr) (v : V), vs = [.ref a, v] ∧ OexL K C ∧ PySem.W.findIn K (.ref C) fl = some none ∧ H a = some (exo a C none) ∧ ∀ dx, H dx = none → dx ≠ a → Q .non (upd (upd H dx (exd dx [(fl, v)])) a (exo a C (some dx)))
theorem xc_mkL {C : Addr} {fl : Str} {K : PySem.W.Frag} {ta : TA} {σ : L2.St} {H : Hp} {Q : XK} (T : OexL K C) (no : PySem.W.findIn K (.ref C) fl = some none)
    (h : ta σ H fun vs H1 => ∃ v, vs = [v] ∧ ∀ d H2, Same H1 H2 → H2 d = some (.xd [(fl, v)]) → Q (.ref C) (some d) H2) (mono : ∀ {A B : List V → Hp → Prop}, (∀ vs H1, A vs H1 → B vs H1) → ta σ H A → ta σ H B) : tMkO C (sp_initL K fl) [] ta σ H Q := by
  refine mono ?_ h
  rintro vs H1 ⟨v, rfl, k⟩
  refine ⟨by show 1 ≤ 1000; decide, fun a na => ⟨a, C, v, rfl, T, no, upd_same, fun dx nd da => ⟨rfl, dx, [(fl, v)], upd_same, ?_, ?_, ?_⟩⟩⟩
  · rw [upd_ne da, upd_same]
  · rw [upd_ne da] at nd
    exact nd
  · have nd1 : H1 dx = none := by
      rw [upd_ne da] at nd
      exact nd
    refine k dx _ (fun b o hb => ?_) upd_same
    rw [upd_ne (ne_of_none hb nd1), del_ne (ne_of_none hb na), upd_ne (ne_of_none hb na), upd_ne (ne_of_none hb nd1), upd_ne (ne_of_none hb na)]
    exact hb
theorem kit_typ {K : PySem.W.Frag} {D : Addr} {b : Bool} {n : String} (hm : PySem.W.kitMeta n = true) (h : PySem.W.subIn K (.ref D) (.type n) = some b) : PySem.W.kitOne K (.ref D) (.type n) = some b := by
  have q : ((Value.ref D) == (Value.type n)) = false := beq_eq_false_iff_ne.mpr fun z => nomatch z
  unfold PySem.W.kitOne
  rw [if_neg (by rw [q]; exact Bool.false_ne_true)]
  show (if PySem.W.kitMeta n = true then PySem.W.subIn K (.ref D) (.type n) else none) = some b
  rw [if_pos hm]
  exact h
end Sm

set_option Elab.async false
set_option linter.all false
set_option maxRecDepth 100000
set_option maxHeartbeats 4000000
namespace Sm
open PySem PySem.Spec PyProof.Rows L2 LamX
/-- told: try: return a() / except e as n: a suite that is told by ts -/
def TAs (K : PySem.W.Frag) (CS : Addr) (Ng : List Str) (i : Nat) (ts : Addr → Value → Option Addr → TS) : (XK → Hp → VK → Prop) → Hp → VK → Prop := fun tl H Q =>
  tl (fun cls d H' => ∃ b, PySem.W.exmOne K cls (.ref CS) = some b ∧ (b = true → ∀ (σ : L2.St) (c : Addr), σ.length = Ng.length → H' c = none → ts c cls d { nx := fun _ H2 => Q .non H2, rt := Q } (σ.set i (some (.ref c))) H') ∧ (b = false → False)) H Q
theorem set_read {σ : L2.St} {N : List Str} {n : Str} {i : Nat} {v : V} (h : σ.length = N.length) (hi : N[i]? = some n) : (σ.set i (some v))[i]? = some (some v) := by
  have := (List.getElem?_eq_some_iff.mp hi).1
  rw [List.getElem?_set_self (by omega)]
/-- where an exception is taken, all slots are there -/
theorem takes_len {X : Cx} {W : WX} (t : Takes X W) : Takes X (fun cls d σ H => σ.length = X.N.length → W cls d σ H) := fun u s' z => by
  obtain ⟨a, B, sI, pins, σ, H, cls, d, e, I, nb, up, sky, na, os, ag, w⟩ := z
  exact t u s' ⟨a, B, sI, pins, σ, H, cls, d, e, I, nb, up, sky, na, os, ag, w I.len⟩
section
variable {X : Cx} {Ng : List Str} {x a e n q : Str} {sg : Scope} {g CS : Addr} {cdg : Value} {i : Nat} {b₀ : Stmt} {suite : List Stmt} {p1 p2 p3 p4 p5 p6 : Pos} {ts : Addr → Value → Option Addr → TS}
/-- the def that calls what it got and holds the exception in a suite of its own -/
theorem as_gives (hge : sg.names.lookup e = some .globalImplicit) (hme : X.mg e = some (.ref CS)) (hde : (e == ("__debug__" : Str)) = false) (h0 : ∀ f : Addr, (L2.start Ng [V.ref f])[0]? = some (some (V.ref f))) (nd : Ng.Nodup) (hi : Ng[i]? = some n)
    (hln : ∀ (s : Shared) (H : Hp), (cxOf C8.CX0 X.prog X.w X.K X.mg X.base Ng x sg g cdg X.A X.stack s H C8.E0).nox.env.kindOf n = some .local)
    (hsu : ∀ (s : Shared) (H : Hp) (c : Addr) (oe : Obj) (cls : Value) (d : Option Addr) (pn : List (Addr × Obj)), Zc cls d oe → (∃ vs, oe.data = .fields vs) → PSs ((cxOf C8.CX0 X.prog X.w X.K X.mg X.base Ng x sg g cdg X.A X.stack s H C8.E0).nox.suite c ((c, oe) :: pn)) (b₀ :: suite) (ts c cls d)) :
    GivesTo X Ng x sg g cdg [.Try [.Return (some (.Call (.Name a p1) [] [] p2)) p3] [.ExceptHandler (some (.Name e p4)) (some n) (b₀ :: suite) p5] [] [] p6] a q (TAs X.K CS Ng i ts) := by
  intro f c' s H Q tl act known told
  let Z := (cxOf C8.CX0 X.prog X.w X.K X.mg X.base Ng x sg g cdg X.A X.stack s H C8.E0).nox
  have glob : Gl Z e := hge
  let body : WX → TS := fun W D σ H1 => ∃ out : XK, (∀ cls d (σ' : L2.St) H', out cls d H' → σ'.length = Ng.length → W cls d σ' H') ∧ σ[0]? = some (some (.ref f)) ∧ H1 c' = some (CodeO c' q) ∧ tl out H1 D.rt
  have inner : ∀ (W : WX) (pn : List (Addr × Obj)) (xe : Value → Shared → Prop), Takes (Z.tr pn xe) W → PassesOwn (model Z.prog Z.w) Z.A Z.env xe → PSs (Z.tr pn xe) [.Return (some (.Call (.Name a p1) [] [] p2)) p3] (body W) := by
    intro W pn xe tk _
    refine ⟨fun pins s' σ H' D I told' => ?_⟩
    obtain ⟨out, hW, h1, h2, h3⟩ := told'
    exact (pss_one (ps_ret (pos := p3) (act _ pn xe out p1 p2 (takes_len tk) hW))).run pins s' σ H' D I ⟨h1, h2, h3⟩
  refine ⟨_, pss_one (ps_try_as (X := Z) (c := .ref CS) (i := i) (tb := body) (ts := ts) (Wout := fun _ _ _ _ => False) rfl rfl nd hi (hln s H) ⟨glob, hde, .inl hme⟩ L2.takes0 inner (fun c oe cls d pn hz hf => hsu s H c oe cls d pn hz hf)), ?_⟩
  exact ⟨_, fun cls d σ' H' w len => by
    obtain ⟨b, e1, e2, e3⟩ := w
    exact ⟨b, e1, fun hb c nc => e2 hb σ' c len nc, fun hb => e3 hb⟩, h0 f, known, told⟩
end
end Sm

set_option Elab.async false
set_option linter.all false
set_option maxRecDepth 100000
set_option maxHeartbeats 4000000
namespace Sm
open PySem PySem.Spec PyProof.Rows L2
/-! ### values of all kinds as data, dicts with text keys and ints too -/
def kD : Key → PyData
  | .inl i => .int i
  | .inr x => .str x
mutual
inductive Dq (K : PySem.W.Frag) (H : Hp) : V → PyData → Prop
  | non : Dq K H .non .none
  | bl (b : Bool) : Dq K H (.bl b) (.bool b)
  | int (i : Int) : Dq K H (.int i) (.int i)
  | str (x : Str) : Dq K H (.str x) (.str x)
  | lst {a : Addr} {xs : List V} {ds : List PyData} : H a = some (.lst xs) → (a == sysModules) = false → DqAll K H xs ds → Dq K H (.ref a) (.list ds)
  | tup {a : Addr} {xs : List V} {ds : List PyData} : H a = some (.tup xs) → DqAll K H xs ds → Dq K H (.ref a) (.tuple ds)
  | dic {a : Addr} (kvs : List (Key × Int)) : H a = some (.dK (kvs.map fun q => (q.1, V.int q.2))) → Dq K H (.ref a) (.dict (kvs.map fun q => (kD q.1, PyData.int q.2)))
inductive DqAll (K : PySem.W.Frag) (H : Hp) : List V → List PyData → Prop
  | nil : DqAll K H [] []
  | cons {v : V} {vs : List V} {d : PyData} {ds : List PyData} : Dq K H v d → DqAll K H vs ds → DqAll K H (v :: vs) (d :: ds)
end
mutual
theorem Dq.mono {K : PySem.W.Frag} {H H' : Hp} (e : ∀ b o, H b = some o → H' b = some o) : ∀ (d : PyData) (v : V), Dq K H v d → Dq K H' v d
  | .none, _, h => by cases h; exact .non
  | .bool b, _, h => by cases h; exact .bl b
  | .int i, _, h => by cases h; exact .int i
  | .str x, _, h => by cases h; exact .str x
  | .list ds, _, h => by
    cases h with
    | lst hs ne ha => exact .lst (e _ _ hs) ne (Dq.monoAll e ds _ ha)
  | .tuple ds, _, h => by
    cases h with
    | tup hs ha => exact .tup (e _ _ hs) (Dq.monoAll e ds _ ha)
  | .dict _, _, h => by
    cases h with
    | dic kvs hk => exact .dic kvs (e _ _ hk)
theorem Dq.monoAll {K : PySem.W.Frag} {H H' : Hp} (e : ∀ b o, H b = some o → H' b = some o) : ∀ (ds : List PyData) (vs : List V), DqAll K H vs ds → DqAll K H' vs ds
  | [], _, h => by cases h; exact .nil
  | d :: ds, _, h => by
    cases h with
    | cons h1 h2 => exact .cons (Dq.mono e d _ h1) (Dq.monoAll e ds _ h2)
end
theorem Dq.same {K : PySem.W.Frag} {H H' : Hp} {v : V} {d : PyData} (h : Dq K H v d) (s : Same H H') : Dq K H' v d := Dq.mono (fun b o => s b o) d v h
section
variable {X : Cx} {pins : List (Addr × Obj)} {σ : L2.St} {H : Hp} {s : Shared}
theorem dic_keys {h : Heap} {P : Program} {w : World} : ∀ {es : List DictEntry} {vs : List (Key × Value)} {kvs : List (Key × Int)}, Pairs (mixKind P w) es vs → KV (kvs.map fun q => (q.1, V.int q.2)) vs →
    ReadsAll h (es.map (·.key)) (kvs.map fun q => kD q.1) [] ∧ ReadsAll h (es.map (·.val)) (kvs.map fun q => PyData.int q.2) []
  | [], _, kvs, .nil, r => by
    cases kvs with
    | nil => exact ⟨.nil, .nil⟩
    | cons a b => exact nomatch r
  | e :: es, _, kvs, .cons h1 h2 h3, r => by
    cases kvs with
    | nil => exact nomatch r
    | cons a b =>
      cases r with
      | cons r1 r2 =>
        obtain ⟨q1, q2⟩ := dic_keys (h := h) h3 r2
        obtain ⟨g1, g2⟩ := r1
        have g1 : a.1 = _ := g1
        have g2 : RelV (V.int a.2) _ := g2
        obtain ⟨t, g2⟩ := g2
        refine ⟨?_, ?_⟩
        · have hk : Reads h e.key (kD a.1) [] := by
            rcases keyIs_shape h1 with ⟨i, t, e1, e2⟩ | ⟨x, t, e1, e2⟩
            · rw [g1, e2, e1]
              exact .int i t
            · rw [g1, e2, e1]
              exact .str x t
          exact .cons hk q1
        · have hv : Reads h e.val (.int a.2) [] := by
            rw [h2, g2]
            exact .int _ t
          exact .cons hv q2
mutual
theorem Dq.reads (I : Inv X pins σ H s) : ∀ (d : PyData) (v : V) (u : Value), Dq X.K H v d → RelV v u → ∃ as, Reads s.heap u d as ∧ sysModules ∉ as
  | .none, _, _, h, r => by
    cases h
    cases r
    exact ⟨_, Reads.none, List.not_mem_nil⟩
  | .bool b, _, _, h, r => by
    cases h
    cases r
    exact ⟨_, Reads.bool b, List.not_mem_nil⟩
  | .int i, _, _, h, r => by
    cases h
    obtain ⟨t, rfl⟩ := r
    exact ⟨_, Reads.int i t, List.not_mem_nil⟩
  | .str x, _, _, h, r => by
    cases h
    obtain ⟨t, rfl⟩ := r
    exact ⟨_, Reads.str x t, List.not_mem_nil⟩
  | .list ds, _, _, h, r => by
    cases h with
    | lst hs ne ha =>
      cases r
      obtain ⟨its, rv, ⟨o, n, ho, hc, _, hd⟩, _⟩ := I.list (SqL.of hs)
      obtain ⟨as, hr, hm⟩ := Dq.readsAll I ds _ its ha rv
      refine ⟨_, Reads.list ho hc hd hr, fun m => ?_⟩
      rcases List.mem_cons.mp m with e | e
      · rw [← e, beq_self_eq_true] at ne
        cases ne
      · exact hm e
  | .tuple ds, _, _, h, r => by
    cases h with
    | tup hs ha =>
      cases r
      obtain ⟨its, rv, ⟨o, ho, hc, n, hd⟩, _⟩ := I.tuple (SqT.of hs)
      obtain ⟨as, hr, hm⟩ := Dq.readsAll I ds _ its ha rv
      exact ⟨_, Reads.tuple ho hc hd hr, hm⟩
  | .dict _, _, _, h, r => by
    cases h with
    | dic kvs hk =>
      cases r
      obtain ⟨_, hd, vs, kv, o, es, ep, h1, h2, h3, _, h4, _⟩ := dk_of I.hok hk
      obtain ⟨q1, q2⟩ := dic_keys (h := s.heap) h4 kv
      have e1 : (kvs.map fun q => (kD q.1, PyData.int q.2)).map (·.1) = kvs.map fun q => kD q.1 := by rw [List.map_map]; rfl
      have e2 : (kvs.map fun q => (kD q.1, PyData.int q.2)).map (·.2) = kvs.map fun q => PyData.int q.2 := by rw [List.map_map]; rfl
      refine ⟨_, Reads.dict h1 h2.1 h3 (by rw [e1]; exact q1) (by rw [e2]; exact q2), fun m => ?_⟩
      rw [List.append_nil] at m
      rw [← List.mem_singleton.mp m, beq_self_eq_true] at hd
      cases hd
theorem Dq.readsAll (I : Inv X pins σ H s) : ∀ (ds : List PyData) (vs : List V) (us : List Value), DqAll X.K H vs ds → Vals vs us → ∃ as, ReadsAll s.heap us ds as ∧ sysModules ∉ as
  | [], _, _, h, r => by
    cases h
    cases r
    exact ⟨_, ReadsAll.nil, List.not_mem_nil⟩
  | d :: ds, _, _, h, r => by
    cases h with
    | cons h1 h2 =>
      cases r with
      | cons r1 r2 =>
        obtain ⟨as, q1, m1⟩ := Dq.reads I d _ _ h1 r1
        obtain ⟨bs, q2, m2⟩ := Dq.readsAll I ds _ _ h2 r2
        refine ⟨_, ReadsAll.cons q1 q2, fun m => ?_⟩
        rcases List.mem_append.mp m with e | e
        · exact m1 e
        · exact m2 e
end
/-- the built-in class of such a value -/
def tyN : PyData → String
  | .none => "NoneType"
  | .bool _ => "bool"
  | .int _ => "int"
  | .str _ => "str"
  | .list _ => "list"
  | .tuple _ => "tuple"
  | .dict _ => "dict"
theorem Dq.ty {K : PySem.W.Frag} {v : V} {d : PyData} (h : Dq K H v d) : TyX K H v (.type (tyN d)) := by
  cases h with
  | non => exact .base .non
  | bl b => exact .base (.bl b)
  | int i => exact .base (.int i)
  | str x => exact .base (.str x)
  | lst e _ _ => exact .base (.lst e)
  | tup e _ => exact .base (.tup e)
  | dic kvs e => exact .base (.dK e)
end
def isT (n m : String) : Bool := m == n || (n == "int" && m == "bool")
def isOf (n : String) (d : PyData) : Bool := isT n (tyN d)
theorem kit_q {K : PySem.W.Frag} {n : String} {d : PyData} (h : n = "int" ∨ n = "bool" ∨ n = "str" ∨ n = "tuple" ∨ n = "list") : PySem.W.kitOne K (.type (tyN d)) (.type n) = some (isOf n d) := by
  refine kit_ty ?_
  unfold isOf
  have m : tyN d = "NoneType" ∨ tyN d = "bool" ∨ tyN d = "int" ∨ tyN d = "str" ∨ tyN d = "list" ∨ tyN d = "tuple" ∨ tyN d = "dict" := by
    cases d <;> simp [tyN]
  generalize tyN d = m' at m
  rcases h with rfl | rfl | rfl | rfl | rfl <;> rcases m with rfl | rfl | rfl | rfl | rfl | rfl | rfl <;> decide +kernel
section
variable {X : Cx}
/-- isinstance(x, T), x of any kind, T built in -/
def rIsQ (K : PySem.W.Frag) : List V → Hp → VK → Prop := fun xs H Q => ∃ (x : V) (d : PyData) (n : String), xs = [x, .ty n] ∧ Dq K H x d ∧ (n = "int" ∨ n = "bool" ∨ n = "str" ∨ n = "tuple" ∨ n = "list") ∧ Q (.bl (isOf n d)) H
theorem call_isQ : CallR X (.builtin "isinstance") (rIsQ X.K) := by
  intro pins s σ H xs us Q I r h
  obtain ⟨x, d, n, rfl, hd, hn, q⟩ := h
  exact call_isi pins s σ H _ us Q I r ⟨x, .ty n, _, _, _, rfl, .ty n, hd.ty, kit_q hn, q⟩
/-- repr of a value of any kind -/
def rReprQ (K : PySem.W.Frag) : List V → Hp → VK → Prop := fun xs H Q => ∃ v d, xs = [v] ∧ Dq K H v d ∧ PyData.showable d = true ∧ d.depth ≤ 60 ∧ d.shown.length ≤ sizeLine ∧ Q (.str d.shown) H
theorem call_reprQ (gu : X.A.guards = some []) (room : ∃ k, Room k X.A) : CallR X (.builtin "repr") (rReprQ X.K) := by
  intro pins s σ H xs us Q I rel want
  obtain ⟨v, d, rfl, data, sh, dep, len, q⟩ := want
  obtain ⟨u, rfl, ru⟩ := vals1 rel
  obtain ⟨as, reads, ns⟩ := Dq.reads I d _ u data ru
  obtain ⟨k, room⟩ := room
  have un := room.un
  have done : ∀ h' (v : Value) tk, (∀ b o, s.heap.get? b = some o → h'.get? b = some o) → (∃ t, v = Value.str d.shown t) → ∃ y H2, Inv X pins σ H2 { s with heap := h', toks := tk } ∧ RelV y v ∧ Q y H2 := fun h' v tk keep e => ⟨.str d.shown, H, I.kept keep, e, q⟩
  have at_ : ∀ a, u = .ref a → _ := fun a e => repr_of_reads' (A := X.A) (s := s) (prog := X.prog) (w := X.w) (E := X.xe) (Q := fun y s' => ∃ z H2, Inv X pins σ H2 s' ∧ RelV z y ∧ Q z H2) (by rw [← e]; exact reads) sh (fun _ => ns) gu (by omega) (fun _ _ e => e) (fun h' v tk keep => ⟨.str d.shown, H, I.kept keep, ⟨_, rfl⟩, q⟩) len
  cases data with
  | non =>
    cases ru
    exact PySem.P.repr_of_none ⟨.str _, H, I.tok _, ⟨_, rfl⟩, q⟩
  | bl b =>
    cases ru
    refine PySem.P.repr_of_bool ⟨.str _, H, I.tok _, ⟨_, rfl⟩, ?_⟩
    cases b <;> exact q
  | int i =>
    obtain ⟨t, rfl⟩ := ru
    exact PySem.P.repr_of_int (of_decide_eq_true (by simpa [PyData.showable] using sh)) ⟨.str _, H, I.tok _, ⟨_, rfl⟩, q⟩
  | str x =>
    obtain ⟨t, rfl⟩ := ru
    exact PySem.P.repr_of_str ⟨.str _, H, I.tok _, ⟨_, rfl⟩, q⟩ len
  | lst e1 e2 e3 =>
    cases ru
    exact at_ _ rfl
  | tup e1 e2 =>
    cases ru
    exact at_ _ rfl
  | dic kvs e1 =>
    cases ru
    exact at_ _ rfl
/-- a list is made: it is not sys.modules -/
def tLstN (t : TA) : TE := fun σ H Q => t σ H fun xs H1 => xs.length ≤ sizeLine ∧ ∀ p, H1 p = none → (p == sysModules) = false → Q (.ref p) (upd H1 p (.lst xs))
theorem pe_lstN {es : List Expr} {pos : Pos} {t : TA} (h : PA X es t) : PE X (.List es pos) (tLstN t) := by
  refine ⟨fun pins s σ H Q I hq => ?_⟩
  refine wpAny_List_spliced (thn (h.run pos pins s σ H _ I hq) fun us s1 ⟨xs, H1, I1, r, z, q⟩ => ⟨by rw [← r.length]; exact z, ?_⟩)
  have hf : H1 s1.heap.objs.size = none := I1.hok.fresh (Nat.le_refl _)
  have hs : (s1.heap.objs.size == sysModules) = false := beq_eq_false_iff_ne.mpr (Ne.symm (Nat.ne_of_lt I1.big))
  refine ⟨.ref s1.heap.objs.size, upd H1 s1.heap.objs.size (.lst xs), I1.laid (t' := s1.toks) (fun b u e => Heap.get?_push_of_some _ e) (Nat.le_refl _) ?_, rfl, q _ hf hs⟩
  exact ⟨z, us, 0, r, Heap.get?_push_size _ rfl⟩
/-- list(t) of a tuple -/
theorem call_listN : CallR X (.type "list") (fun xs H Q => ∃ p ys, xs = [.ref p] ∧ H p = some (.tup ys) ∧ ∀ l, H l = none → (l == sysModules) = false → Q (.ref l) (upd H l (.lst ys))) := by
  intro pins s σ H xs us Q I r h
  obtain ⟨p, ys, rfl, hq, q⟩ := h
  have hs : (s.heap.objs.size == sysModules) = false := beq_eq_false_iff_ne.mpr (Ne.symm (Nat.ne_of_lt I.big))
  obtain ⟨u, rfl, rx⟩ := vals1 r
  cases rx
  obtain ⟨its, r', pl, hz⟩ := I.tuple (SqT.of hq)
  have hlen := r'.length
  obtain ⟨o, ho, hc, n, hd⟩ := pl
  exact call_list_seq p (.inr rfl) ho hc hd (fun h' c' kp e => ⟨.ref s.heap.objs.size, _, I.laid (t' := s.toks) kp (Nat.le_refl _) (show ObjOk X.prog X.w _ h' _ (.lst ys) from ⟨hz, its, c', r', e⟩), rfl, q _ (I.hok.fresh (Nat.le_refl _)) hs⟩) (by simp only [List.size_toArray] <;> omega)
end
end Sm

set_option Elab.async false
set_option linter.all false
set_option maxRecDepth 100000
set_option maxHeartbeats 4000000
namespace Sm
open PySem PySem.Spec PyProof.Rows L2 LamX
/-- repr of a value of any kind, in an except suite too -/
theorem call_reprU {X : Cx} (gu : X.A.guards = some []) (un : X.A.units + 100 < cLine) : CallR X (.builtin "repr") (rReprQ X.K) := by
  rintro pins s σ H xs us Q I rel ⟨v, d, rfl, data, sh, dep, len, q⟩
  obtain ⟨u, rfl, ru⟩ := vals1 rel
  obtain ⟨as, reads, ns⟩ := Dq.reads I d _ u data ru
  have at_ : ∀ a, u = .ref a → _ := fun a e => repr_of_reads' (A := X.A) (s := s) (prog := X.prog) (w := X.w) (E := X.xe) (Q := fun y s' => ∃ z H2, Inv X pins σ H2 s' ∧ RelV z y ∧ Q z H2) (by rw [← e]; exact reads) sh (fun _ => ns) gu (by omega) (fun _ _ e => e) (fun h' v tk keep => ⟨.str d.shown, H, I.kept keep, ⟨_, rfl⟩, q⟩) len
  cases data with
  | non => cases ru; exact PySem.P.repr_of_none ⟨.str _, H, I.tok _, ⟨_, rfl⟩, q⟩
  | bl b => cases ru; exact PySem.P.repr_of_bool ⟨.str _, H, I.tok _, ⟨_, rfl⟩, by cases b <;> exact q⟩
  | int i => obtain ⟨t, rfl⟩ := ru; exact PySem.P.repr_of_int (of_decide_eq_true (by simpa [PyData.showable] using sh)) ⟨.str _, H, I.tok _, ⟨_, rfl⟩, q⟩
  | str x => obtain ⟨t, rfl⟩ := ru; exact PySem.P.repr_of_str ⟨.str _, H, I.tok _, ⟨_, rfl⟩, q⟩ len
  | lst e1 e2 e3 => cases ru; exact at_ _ rfl
  | tup e1 e2 => cases ru; exact at_ _ rfl
  | dic kvs e1 => cases ru; exact at_ _ rfl
section
variable {X : Cx} {pins : List (Addr × Obj)} {σ : L2.St} {H : Hp} {s : Shared}
/-- a local name read, nothing else happens -/
theorem ld_var {E : Value → Shared → Prop} {Q : Value → Shared → Prop} {i : Nat} {x : Str} {pos : Pos} {v : V} (I : Inv X pins σ H s) (named : X.N[i]? = some x) (seen : Vis X.env.scope x) (e : σ[i]? = some (some v)) (h : ∀ u, RelV v u → Q u s)
    (hd : (x == ("__debug__" : Str)) = false := by decide) (hcd : (x == ("__classdict__" : Str)) = false := by decide) : wpAny (model X.prog X.w) X.A (eval (.Name x pos) X.env) Q E s := by
  obtain ⟨m, hn, hl⟩ := I.loc
  obtain ⟨u, r, l⟩ := hl i x v named e seen
  rcases l with ⟨hk, hm⟩ | ⟨hk | hk, c, hc, hcell⟩
  · exact wpAny_Name (wpAny_loadName_local I.ok.kind hk hn hm (h u r)) hd
  · exact wpAny_Name (wpAny_loadName_cell I.ok.kind hk hc hcell (h u r)) hd
  · exact wpAny_Name (wpAny_loadName_free I.ok.kind hk hc hcell (h u r) hcd) hd
/-- x() in the def that got the lambda: what is raised is taken at the very slots -/
theorem pe_actS {Ng : List Str} {qg : Str} {sg : Scope} {g f c' : Addr} {cdg pm ctv : Value} {params : Arguments} {body : Expr} {scope : Scope} {k i : Nat} {a : Str} {pn : List (Addr × Obj)} {xe : Value → Shared → Prop} {W : WX} {E : XK} {tb : TE} {p1 p2 : Pos} (σ0 : L2.St)
    (I : Inv X pins σ H s) (L : LamS X.env.scope scope) (hf : s.heap.get? f = some (PySem.W.kla_obj "<lambda>" (X.env.qual ++ "<lambda>") params body scope (cloFrom X.env.cells scope.names []) pm c' ctv)) (hfn : H f = none) (hfr : f ∉ frs X.stack)
    (hbind : bindArgs (PySem.W.kla_fn "<lambda>" (X.env.qual ++ "<lambda>") params body scope (cloFrom X.env.cells scope.names []) pm (.ref c') ctv) ⟨[], []⟩ = pure [])
    (tk : Takes ((cxOf C8.CX0 X.prog X.w X.K X.mg X.base Ng qg sg g cdg X.A X.stack s H C8.E0).tr pn xe) W) (hW : ∀ cls d H', E cls d H' → W cls d σ0 H') (hr : Room (k + 1) (X.A.deeper (envOfC qg sg s.heap.objs.size g cdg)))
    (hbody : ∀ (A : Around) (outer : List Env) (s : Shared) (H : Hp), Room k (A.deeper (lamEnv X scope s.heap.objs.size f c')) → PE (lamCx X A outer s H E scope f c') body tb)
    (hN : Ng[i]? = some a) (hv : Vis sg a) (hd : (a == ("__debug__" : Str)) = false := by decide) (hcd : (a == ("__classdict__" : Str)) = false := by decide) :
    PE ((cxOf C8.CX0 X.prog X.w X.K X.mg X.base Ng qg sg g cdg X.A X.stack s H C8.E0).tr pn xe) (.Call (.Name a p1) [] [] p2) (fun σZ HZ Q => σZ = σ0 ∧ σZ[i]? = some (some (.ref f)) ∧ HZ c' = some (CodeO c' (X.env.qual ++ "<lambda>")) ∧ tb σ HZ Q) := by
  refine ⟨fun pinsZ sZ σZ HZ Q IZ h => ?_⟩
  obtain ⟨rfl, hs, hc, ht⟩ := h
  refine wpAny_Call_Name_kw (ld_var IZ (pos := p1) (i := i) hN hv hs (fun u r1 => ?_) hd hcd)
  obtain rfl : u = Value.ref f := r1
  have of1 := IZ.base.keep f _ hf hfn hfr (fun z => nomatch (show f ∈ ([] : List Addr) from z))
  refine PySem.W.callWith_F0 ⟨_, _, _, _, of1⟩ ?_
  have un : Un (frs X.stack) [] H HZ s.heap sZ.heap := IZ.base
  obtain ⟨⟨oc, vs, t, hoc, hdc, hvc⟩, _, _⟩ := IZ.hok c' _ hc
  have ran : codeAny (model X.prog X.w) (X.A.deeper (envOfC qg sg s.heap.objs.size g cdg)) (.call (.ref f) ⟨[], []⟩) (CR (L2.CX X.prog X.w) (envOfC qg sg s.heap.objs.size g cdg :: X.stack) X.prog X.w HZ sZ Q E) sZ := by
    refine PySem.W.kla_callFunE hr.depth of1 rfl L.co L.gen rfl ⟨c', oc, vs, t, rfl, hoc, hdc, hvc⟩ ?_
    rw [hbind]
    refine wpAny_pure (wpAny_newFunctionEnv (fun y hy => (L.own y hy).2) (fun y hy => absurd hy (by simp)) (fun h₁ names same => ⟨IZ.nolimit.fresh _ same, ?_⟩) L.kind)
    have keep : ∀ b o, sZ.heap.get? b = some o → h₁.get? b = some o := fun b o e => same.extBut b o (Nat.ne_of_lt (Heap.lt_size e)) (Heap.get?_push_of_some _ e)
    refine PySem.W.kla_codeExpr (wpAny_mono ((hbody _ _ sZ HZ (hr.deeper _)).run [] _ _ HZ Q (lam_start2 I L IZ.env0 hr.hd un names keep) ht) ?_ fun e s' hq => hq)
    rintro v s' ⟨w', H', J', rv, q⟩
    exact ⟨w', H', J'.os, J'.bare, J'.base, J'.hok, rv, q⟩
  refine wpAny_call (codeAny_mono ran ?_)
  rintro (e | fl) s' hq
  · exact tk e s' (XE.of_call IZ (fun cls d H' h => hW cls d H' h) hq)
  match fl, hq with
  | .ret u, hq => exact IZ.after hq
  | .next, hq => exact False.elim hq
  | .brk, hq => exact False.elim hq
  | .cont, hq => exact False.elim hq
end
/-- the def that gets a lambda and a value: TT tells what it makes of both -/
def Gives2 (X : Cx) (Ng : List Str) (x : Str) (sg : Scope) (g : Addr) (cdg : Value) (bg : List Stmt) (a : Str) (q : Str) (TT : V → (XK → Hp → VK → Prop) → Hp → VK → Prop) : Prop :=
  ∀ (f c' : Addr) (s : Shared) (H : Hp) (v : V) (Q : VK) (tl : XK → Hp → VK → Prop),
    (∀ (W : WX) (pn : List (Addr × Obj)) (xe : Value → Shared → Prop) (E : XK) (p1 p2 : Pos) (σ0 : L2.St), Takes ((cxOf C8.CX0 X.prog X.w X.K X.mg X.base Ng x sg g cdg X.A X.stack s H C8.E0).tr pn xe) W → (∀ cls d H', E cls d H' → W cls d σ0 H') →
      PE ((cxOf C8.CX0 X.prog X.w X.K X.mg X.base Ng x sg g cdg X.A X.stack s H C8.E0).tr pn xe) (.Call (.Name a p1) [] [] p2) (fun σZ HZ Q => σZ = σ0 ∧ σZ[0]? = some (some (.ref f)) ∧ HZ c' = some (CodeO c' q) ∧ tl E HZ Q)) →
    H c' = some (CodeO c' q) → TT v tl H Q →
    ∃ t, PSs (cxOf C8.CX0 X.prog X.w X.K X.mg X.base Ng x sg g cdg X.A X.stack s H C8.E0).nox bg t ∧ t { nx := fun _ H' => Q .non H', rt := Q } (L2.start Ng [.ref f, v]) H
def tLam2 (T : List (Addr × Str)) (TT : V → (XK → Hp → VK → Prop) → Hp → VK → Prop) (t : XK → TE) (j : Nat) : TE := fun σ H Q => Tabs T H ∧ ∃ v, σ[j]? = some (some v) ∧ ∀ H1, ExtN H H1 → Tabs T H1 → TT v (fun E H' Q' => t E σ H' Q') H1 Q
section
variable {X : Cx}
/-- x(lambda: body, y) -/
theorem pe_lamcall2 {T : List (Addr × Str)} {TT : V → (XK → Hp → VK → Prop) → Hp → VK → Prop} {x a b y : Str} {g c P : Addr} {k j : Nat} {pg : Arguments} {bg : List Stmt} {sg : Scope} {dV kV doc pm cdv ct oc : Value} {an od : Option Addr} {osl : Array (Option Value)} {Ng : List Str}
    {params : Arguments} {body : Expr} {scope : Scope} {t : XK → TE} {p lpos pos py : Pos} (hg : Gl X x) (hm : X.mg x = some (.ref g)) (hk : PySem.W.keepIn X.K (.ref g) = true)
    (lk : X.K.lookup g = some ⟨oc, od, .func (PySem.W.fnOf x x pg bg sg dV kV doc pm an cdv ct), osl⟩) (hcg : PySem.W.codeIn X.K cdv x = true) (hb : L2.Binds X.K (PySem.W.fnOf x x pg bg sg dV kV doc pm an cdv ct) [a, b] []) (Sg : FnScope Ng [a, b] sg) (hNg : Ng[0]? = some a) (hva : Vis sg a)
    (hG : Gives2 X Ng x sg g cdv bg a (X.env.qual ++ "<lambda>") TT)
    (TB : TabB X.base X.mg c P) (hcode : X.env.code = .ref c) (hmT : (P, X.env.qual ++ "<lambda>") ∈ T) (hu : ∀ p ∈ T, p.1 = P → p.2 = X.env.qual ++ "<lambda>") (hr : Room (k + 2) X.A) (L : LamS X.env.scope scope) (hdef : defaultsOf params X.env = ([], []))
    (hbind : ∀ (q : Str) (cl : List (Str × Addr)) (pm cv ctv : Value), bindArgs (PySem.W.kla_fn "<lambda>" q params body scope cl pm cv ctv) ⟨[], []⟩ = pure [])
    (hbody : ∀ (A : Around) (outer : List Env) (s : Shared) (H : Hp) (E : XK) (f c' : Addr), Room k (A.deeper (lamEnv X scope s.heap.objs.size f c')) → PE (lamCx X A outer s H E scope f c') body (t E))
    (named : X.N[j]? = some y) (seen : Vis X.env.scope y)
    (hdb : (x == ("__debug__" : Str)) = false := by decide) (hd : (a == ("__debug__" : Str)) = false := by decide) (hcd : (a == ("__classdict__" : Str)) = false := by decide) (hyd : (y == ("__debug__" : Str)) = false := by decide) (hycd : (y == ("__classdict__" : Str)) = false := by decide) :
    PE X (.Call (.Name x p) [.Lambda params body scope lpos, .Name y py] [] pos) (tLam2 T TT t j) := by
  refine ⟨fun pins s σ H Q I h => ?_⟩
  obtain ⟨hT, v, hv, h⟩ := h
  refine wpAny_Call_Name_kw (ld_glob I hg hm (PySem.W.callWith_K (h₀ := X.base) I.ok.mod.kin hk ?_ (by rfl) (by rfl)) hdb)
  show wpAny _ _ (spliced ((false, eval (.Lambda params body scope lpos) X.env) :: backTo pos (starEach [.Name y py] X.env))) _ _ s
  refine Calls.spliced_cons (lam_make2 I TB hcode hmT hu hT hdef (L.has I.ok) ?_)
  intro f c' pm' ctv H1 s' I1 eN T1 hf hfn hfr hco
  show wpAny _ _ (spliced ((false, eval (.Name y py) X.env) :: backTo pos (starEach [] X.env))) _ _ s'
  refine Calls.spliced_cons (ld_var I1 named seen hv (fun u r1 => ?_) hyd hycd)
  refine Calls.spliced_nil ⟨I1.kIn, ?_⟩
  have ran : codeAny (model X.prog X.w) X.A (.call (.ref g) ⟨[.ref f, u], []⟩) (CR C8.CX0 X.stack X.prog X.w H1 s' Q C8.E0) s' := by
    refine run_ofS (N := Ng) (ps := [a, b]) (us := [.ref f, u]) (vs := [.ref f, v]) lk hcg Sg hr I1.env0 (hb s' [.ref f, u] I1.kIn rfl) (.cons rfl (.cons r1 .nil)) rfl fun room => ?_
    obtain ⟨t', got, fine⟩ := hG f c' s' H1 v Q (fun E H' Q' => t E σ H' Q') (fun W pn xe E p1 p2 σ0 tk hW => pe_actS (i := 0) σ0 I1 L hf hfn hfr (hbind _ _ _ _ _) tk hW room (fun A outer s H r2 => hbody A outer s H E f c' r2) hNg hva hd hcd) hco (h H1 eN T1)
    exact ⟨t', got.nox, fine⟩
  refine wpAny_call (codeAny_mono ran ?_)
  rintro (e | fl) s2 hq
  · exact (show False from hq).elim
  match fl, hq with
  | .ret u, hq => exact I1.after hq
  | .next, hq => exact False.elim hq
  | .brk, hq => exact False.elim hq
  | .cont, hq => exact False.elim hq
/-- try: a() / except e as n: a suite that is told by ts -/
def tActAs (K : PySem.W.Frag) (CS f c' : Addr) (q : Str) (i : Nat) (ts : Addr → Value → Option Addr → TS) (tl : XK → Hp → VK → Prop) : TS := fun D σ H => σ[0]? = some (some (.ref f)) ∧ H c' = some (CodeO c' q) ∧
  tl (fun cls d H' => wAs K (.ref CS) i ts (fun _ _ _ _ => False) D cls d σ H') H (fun _ H' => D.nx σ H')
theorem ps_act_as {Ng : List Str} {x a e n q : Str} {sg : Scope} {g CS f c' : Addr} {cdg : Value} {i : Nat} {b₀ : Stmt} {suite : List Stmt} {p1 p2 p3 p4 p5 p6 : Pos} {ts : Addr → Value → Option Addr → TS} {s : Shared} {H : Hp} {tl : XK → Hp → VK → Prop}
    (hge : sg.names.lookup e = some .globalImplicit) (hme : X.mg e = some (.ref CS)) (hde : (e == ("__debug__" : Str)) = false) (nd : Ng.Nodup) (hi : Ng[i]? = some n)
    (hln : (cxOf C8.CX0 X.prog X.w X.K X.mg X.base Ng x sg g cdg X.A X.stack s H C8.E0).nox.env.kindOf n = some .local)
    (act : ∀ (W : WX) (pn : List (Addr × Obj)) (xe : Value → Shared → Prop) (E : XK) (p1 p2 : Pos) (σ0 : L2.St), Takes ((cxOf C8.CX0 X.prog X.w X.K X.mg X.base Ng x sg g cdg X.A X.stack s H C8.E0).tr pn xe) W → (∀ cls d H', E cls d H' → W cls d σ0 H') →
      PE ((cxOf C8.CX0 X.prog X.w X.K X.mg X.base Ng x sg g cdg X.A X.stack s H C8.E0).tr pn xe) (.Call (.Name a p1) [] [] p2) (fun σZ HZ Q => σZ = σ0 ∧ σZ[0]? = some (some (.ref f)) ∧ HZ c' = some (CodeO c' q) ∧ tl E HZ Q))
    (hsu : ∀ (c : Addr) (oe : Obj) (cls : Value) (d : Option Addr) (pn : List (Addr × Obj)), Zc cls d oe → (∃ vs, oe.data = .fields vs) → PSs ((cxOf C8.CX0 X.prog X.w X.K X.mg X.base Ng x sg g cdg X.A X.stack s H C8.E0).nox.suite c ((c, oe) :: pn)) (b₀ :: suite) (ts c cls d)) :
    PS (cxOf C8.CX0 X.prog X.w X.K X.mg X.base Ng x sg g cdg X.A X.stack s H C8.E0).nox (.Try [.Expr (.Call (.Name a p1) [] [] p2) p3] [.ExceptHandler (some (.Name e p4)) (some n) (b₀ :: suite) p5] [] [] p6) (tActAs X.K CS f c' q i ts tl) := by
  let Z := (cxOf C8.CX0 X.prog X.w X.K X.mg X.base Ng x sg g cdg X.A X.stack s H C8.E0).nox
  have glob : Gl Z e := hge
  let tried : WX → TS := fun W D σ H1 => ∃ out : XK, (∀ cls d H', out cls d H' → W cls d σ H') ∧ σ[0]? = some (some (.ref f)) ∧ H1 c' = some (CodeO c' q) ∧ tl out H1 (fun _ H2 => D.nx σ H2)
  have inner : ∀ (W : WX) (pn : List (Addr × Obj)) (xe : Value → Shared → Prop), Takes (Z.tr pn xe) W → PassesOwn (model Z.prog Z.w) Z.A Z.env xe → PSs (Z.tr pn xe) [.Expr (.Call (.Name a p1) [] [] p2) p3] (tried W) := by
    intro W pn xe tk _
    refine ⟨fun pins s' σ H' D I told' => ?_⟩
    obtain ⟨out, hW, h1, h2, h3⟩ := told'
    exact (pss_one (ps_expr (pos := p3) (act _ pn xe out p1 p2 σ tk hW))).run pins s' σ H' D I ⟨rfl, h1, h2, h3⟩
  have whole := ps_try_as (X := Z) (c := .ref CS) (i := i) (tb := tried) (ts := ts) (Wout := fun _ _ _ _ => False) (pos := p6) (pos' := p5) (np := p4) rfl rfl nd hi hln ⟨glob, hde, .inl hme⟩ L2.takes0 inner (fun c oe cls d pn hz hf => hsu c oe cls d pn hz hf)
  refine ⟨fun pins s' σ H1 D I h => whole.run pins s' σ H1 D I ?_⟩
  obtain ⟨h1, h2, h3⟩ := h
  exact ⟨_, fun cls d H' h => h, h1, h2, h3⟩
end
end Sm

set_option Elab.async false
set_option linter.all false
set_option maxRecDepth 100000
set_option maxHeartbeats 4000000
namespace Sm
open PySem PySem.Spec PyProof.Rows L2
/-! ### try with several clauses `except C as n`, which together take all that the body raises -/
/-- behind a suite its name is gone -/
def offN (i : Nat) (D : Ends) : Ends := { nx := fun τ K => D.nx (τ.set i none) K, rt := D.rt, bk := fun τ K => D.bk (τ.set i none) K, ct := fun τ K => D.ct (τ.set i none) K }
def wNames (K : PySem.W.Frag) (D : Ends) : List (Value × Nat × (Addr → Value → Option Addr → TS)) → WX
  | [] => fun _ _ _ _ => False
  | (c, i, ts) :: more => fun cls d σ H => ∃ b, PySem.W.exmOne K cls c = some b ∧ (b = true → ∀ e, H e = none → ts e cls d (offN i D) (σ.set i (some (.ref e))) H) ∧ (b = false → wNames K D more cls d σ H)
inductive Clauses (X : Cx) : List ExceptHandler → List (Value × Nat × (Addr → Value → Option Addr → TS)) → Prop
  | nil : Clauses X [] []
  | cons {x n : Str} {c : Value} {i : Nat} {ts : Addr → Value → Option Addr → TS} {first : Stmt} {suite : List Stmt} {p q : Pos} {hds : List ExceptHandler} {more : List (Value × Nat × (Addr → Value → Option Addr → TS))}
      (known : Names X x c) (slot : X.N[i]? = some n) (own : X.env.kindOf n = some .local)
      (told : ∀ (e : Addr) (o : Obj) (cls : Value) (d : Option Addr) (pn : List (Addr × Obj)), Zc cls d o → (∃ vs, o.data = .fields vs) → PSs (X.suite e ((e, o) :: pn)) (first :: suite) (ts e cls d)) (rest : Clauses X hds more) :
      Clauses X (.ExceptHandler (some (.Name x p)) (some n) (first :: suite) q :: hds) ((c, i, ts) :: more)
section
variable {X : Cx} {body : List Stmt} {h₀ : ExceptHandler} {hds : List ExceptHandler} {cl : List (Value × Nat × (Addr → Value → Option Addr → TS))} {pos : Pos} {tb : WX → TS}
theorem ps_try_names (stk : X.stack = X.env :: X.outer) (frm : X.env.frame = some X.env.locals) (nd : X.N.Nodup)
    (inner : ∀ (W : WX) (pn : List (Addr × Obj)) (xe : Value → Shared → Prop), Takes (X.tr pn xe) W → PassesOwn (model X.prog X.w) X.A X.env xe → PSs (X.tr pn xe) body (tb W)) (cs : Clauses X (h₀ :: hds) cl) :
    PS X (.Try body (h₀ :: hds) [] [] pos) (fun D σ H => tb (wNames X.K D cl) D σ H) := by
  refine ⟨fun pins s σ H D I h => wpAny_Try_except ?_⟩
  have ok := I.ok
  refine wpAny_mono ((inner (wNames X.K D cl) (X.pn ++ pins) (fun e s₁ => wpAny (model X.prog X.w) X.A (noteFrame e X.env) (fun _ s₂ => wpAny (model X.prog X.w) X.A (setFlight e none) (fun _ s₃ => wpAny (model X.prog X.w) X.A (handleBy e X.env (h₀ :: hds)) (SP X pins D) X.xe s₃) X.xe s₂) X.xe s₁) ?_ PassesOwn.looking).run [] s σ H D (I.toTry _) h) ?_ (fun e s1 he => he)
  · rintro u s' ⟨a, B, sI, pins', τ, G, cls, d, rfl, J', bare, up, sky, fresh, os, ag, w⟩
    have J : Inv X pins τ G sI := J'.ofTry ok
    have sky2 : Sky B (X.env :: X.outer) a (Zc cls d) X.env.locals s'.heap := by rw [← stk]; exact sky
    show wpAny (model X.prog X.w) X.A (noteFrame (.ref a) X.env) _ _ _
    refine Sky.land Zc.steady (by rw [ok.frames, stk]) frm sky2 fun h3 fly up3 => ?_
    have landed : Inv X pins τ G { s' with heap := h3 } := J.landed bare fly.1 (up.trans up3) os ag
    obtain ⟨o3, vs3, there, kind, data⟩ := fly.there
    have outside : a ∉ frs (X.env :: X.outer) := fun m => by
      obtain ⟨_, o', e', no⟩ := fly.2.2.1.mem m
      rw [there] at e'; cases e'
      exact no _ data
    have nL : a ≠ X.env.locals := fun z => outside (List.mem_filterMap.mpr ⟨X.env, List.mem_cons_self, by rw [frm, z]⟩)
    have nF : a ∉ X.fs := fun m => by
      obtain ⟨e, he, q⟩ := List.mem_filterMap.mp m
      exact outside (List.mem_filterMap.mpr ⟨e, List.mem_cons_of_mem _ he, q⟩)
    have S3 := landed.suite there data fresh nL nF
    have typ : PySem.W.Looks (model X.prog X.w) h3 (typeOf (.ref a)) cls := fun A Q E s k q => wpAny_typeOf_ref (k _ _ there) (by rw [kind.1]; exact q)
    have each : ∀ {hs : List ExceptHandler} {ls : List (Value × Nat × (Addr → Value → Option Addr → TS))}, Clauses X hs ls → wNames X.K D ls cls d τ G → wpAny (model X.prog X.w) X.A (handleBy (.ref a) X.env hs) (SP X pins D) X.xe { s' with heap := h3 } := by
      intro hs ls cs
      induction cs with
      | nil => exact fun w => False.elim w
      | @cons x n c i ts first suite p q hds2 more known slot own told rest ih =>
        rintro ⟨b, asked, yes, no⟩
        refine wpAny_handleBy_cons (codeAny_handlers_test ?_) (by intro q; cases q)
        have match_ := PySem.W.exm_one (M := model X.prog X.w) landed.kIn typ asked
        have named : ∀ {Q : Value → Shared → Prop} {E : Value → Shared → Prop}, Q c { s' with heap := h3 } → wpAny (model X.prog X.w) (X.A.mark (some (.ref a))) (eval (.Name x p) X.env) Q E { s' with heap := h3 } := by
          intro Q E z
          obtain ⟨hg, hdbg, hm | ⟨hm, hv, hnn⟩⟩ := known
          · exact ld_glob (X := X.suite a ((a, o3) :: (X.pn ++ pins))) S3 hg hm z hdbg
          · exact ld_blt (X := X.suite a ((a, o3) :: (X.pn ++ pins))) S3 hg hm hv z hnn hdbg
        refine named (match_.here ?_)
        cases b with
        | false => exact ih (no rfl)
        | true =>
          refine codeAny_handlers_suite_as (HandSPX.lands_againZ fly fun h4 fly4 up4 => ?_)
          have J4 : Inv X pins τ G { s' with heap := h4 } := J.landed bare fly4.1 ((up.trans up3).trans up4) os ag
          obtain ⟨o4, vs4, there4, kind4, data4⟩ := fly4.there
          refine store_ok (X := X.suite a ((a, o4) :: (X.pn ++ pins))) (v := .ref a) (J4.suite there4 data4 fresh nL nF) nd slot (.inl own) rfl (fun s5 S5 => ?_) (.inr own)
          refine wpAny_mono ((told a o4 cls d (X.pn ++ pins) kind4 ⟨_, data4⟩).run [] s5 _ G _ S5 (yes rfl a fresh)) ?_ (fun _ _ z => False.elim z)
          intro fl s6 out
          have gone : ∀ {τ6 : L2.St} {H6 : Hp} {Q : Shared → Prop}, Inv (X.suite a ((a, o4) :: (X.pn ++ pins))) [] τ6 H6 s6 → (∀ s7, Inv X pins (τ6.set i none) H6 s7 → Q s7) → wpAny (model X.prog X.w) X.A (do bindName X.env n .none; unbindBehindTheSuite X.env n q) (fun _ s7 => Q s7) X.xe s6 :=
            fun {τ6 H6 Q} S6 z => gone_ok (S6.unsuite ok) nd slot own z
          match fl, out with
          | .next, ⟨τ6, H6, S6, z⟩ => exact gone S6 fun s7 J7 => ⟨_, _, J7, z⟩
          | .brk, ⟨τ6, H6, S6, z⟩ => exact gone S6 fun s7 J7 => ⟨_, _, J7, z⟩
          | .cont, ⟨τ6, H6, S6, z⟩ => exact gone S6 fun s7 J7 => ⟨_, _, J7, z⟩
          | .ret u, ⟨v6, τ6, H6, S6, r6, z⟩ => exact gone S6 fun s7 J7 => ⟨_, _, _, J7, r6, z⟩
    exact each cs w
  · intro fl s1 out
    match fl, out with
    | .next, ⟨τ, G, J', z⟩ => exact wpAny_execs_nil ⟨τ, G, J'.ofTry ok, z⟩
    | .brk, ⟨τ, G, J', z⟩ => exact ⟨τ, G, J'.ofTry ok, z⟩
    | .cont, ⟨τ, G, J', z⟩ => exact ⟨τ, G, J'.ofTry ok, z⟩
    | .ret u, ⟨v, τ, G, J', r, z⟩ => exact ⟨v, τ, G, J'.ofTry ok, r, z⟩
end
end Sm

set_option Elab.async false
set_option linter.all false
set_option maxRecDepth 100000
set_option maxHeartbeats 4000000
namespace Sm
open PySem PySem.Spec PyProof.Rows L2
/-! ### own exception classes with one field, over ValueError (XVal) and LookupError (XLook): what the written part says of them -/
structure XVal (K : PySem.W.Frag) (mg : Str → Option Value) (nm fl : Str) (C fI : Addr) : Prop where
  g : mg nm = some (.ref C)
  oex : OexC K C
  no : PySem.W.findIn K (.ref C) fl = some none
  iC : PySem.W.findIn K (.ref C) "__init__" = some (some (.ref fI))
  tI : PySem.W.typeIn K (.ref fI) = some (.type "function")
  xf : XfC K C
  ec : ExcC K C
  te : PySem.W.exmOne K (.ref C) (.ref C) = some true
structure XLook (K : PySem.W.Frag) (mg : Str → Option Value) (nm fl : Str) (C fI : Addr) : Prop where
  g : mg nm = some (.ref C)
  oex : OexL K C
  no : PySem.W.findIn K (.ref C) fl = some none
  iC : PySem.W.findIn K (.ref C) "__init__" = some (some (.ref fI))
  tI : PySem.W.typeIn K (.ref fI) = some (.type "function")
  xf : XfC K C
  ec : ExcC K C
  te : PySem.W.exmOne K (.ref C) (.ref C) = some true
/-- the def __init__ of such a class -/
def IniF (K : PySem.W.Frag) (q fl : Str) (st : Stmt) (fI : Addr) : Prop := ∃ fd, Fun K "__init__" q st fI fd ∧ Binds K fd ["self", fl] []
def CalX (P : Program) (w : World) (K : PySem.W.Frag) (mg : Str → Option Value) (base : Heap) (x : Str) (ps : List Str) (k : Nat) (sp : Sp) : Prop :=
  ∃ (f : Addr) (fd : FuncData), FnOk P w K mg base (L2.CX P w) k f fd ps sp ∧ mg x = some (.ref f) ∧ PySem.W.keepIn K (.ref f) = true ∧ Binds K fd ps []
/-- what is raised may be wished for at any slots that are there -/
theorem passL {X : Cx} {W : WX} {P : Program} {w : World} {n : Nat} (tk : Takes X W) (hp : X.prog = P := by rfl) (hw : X.w = w := by rfl) (hn : X.N.length = n := by rfl) : Passes (L2.CX P w) X (fun cls d H => ∀ σ : L2.St, σ.length = n → W cls d σ H) := by
  subst hp hw hn
  exact passes_call (takes_len tk) fun cls d σ H h => h σ
theorem un_mk {k : Nat} {A : Around} {h : Option Value} (r : Room k A) : (A.mark h).units + 100 < cLine := by
  have := r.un
  show A.units + 100 < cLine
  omega
theorem un_of {k : Nat} {A : Around} (r : Room k A) : A.units + 100 < cLine := by have := r.un; omega
/-- isinstance of an own instance -/
structure InsC (K : PySem.W.Frag) (C : Addr) : Prop where
  cl : Cls K C
  ha : PySem.W.findIn K (.ref C) "__class__" = some (some (.builtin "object.__class__"))
  hn : PySem.W.specialIn K (.builtin "object.__class__") "__get__" = some (some (.builtin "getset_descriptor.__get__"))
  ht : PySem.W.takesIn K (.builtin "object.__class__") = some true
  hm : PySem.W.mroIn K C (.type "object") = some true
theorem InsC.ty {K : PySem.W.Frag} {C a dx : Addr} {H : Hp} {fs : List (Str × V)} (c : InsC K C) (e : H a = some (.ins C dx fs)) : TyX K H (.ref a) (.ref C) := .base (.ins e c.cl c.ha c.hn c.ht c.hm)
/-! ### texts of texts -/
theorem ofString_small (s : String) : ∀ c ∈ (Str.ofString s).cps.toList, c < 16 ^ 8 := by
  intro c hc
  rw [signs_ofString] at hc
  obtain ⟨x, _, rfl⟩ := List.mem_map.mp hc
  have h : x.toNat < 1114112 := by
    have := x.valid
    rcases this with h | h
    · exact Nat.lt_trans h (by decide)
    · exact h.2
  exact Nat.lt_trans h (by decide)
end Sm

set_option Elab.async false
set_option linter.all false
set_option maxRecDepth 100000
set_option maxHeartbeats 4000000
namespace Sm
open PySem PySem.Spec PyProof.Rows L2
theorem own_ne {prog : Program} {w : World} {A : Around} {E : Value → Shared → Prop} {s : Shared} {K : PySem.W.Frag} {x C f : Addr} {ox : Obj} {od : Option Obj} {b tb : Value} {Q : Value → Shared → Prop} (u0 : A.units + 4 < cLine) (X : K.In s.heap) (J : PySem.W.InstAt s.heap x ox C od)
    (hb : PySem.W.Looks (model prog w) s.heap (typeOf b) tb) (nf : PySem.W.notFirst K C tb = true) (an : PySem.W.findIn K (.ref C) "__ne__" = some (some (.builtin "object.__ne__"))) (mo : PySem.W.mroIn K C (.type "object") = some true)
    (ae : PySem.W.findIn K (.ref C) "__eq__" = some (some (.ref f))) (fn : PySem.W.isFn K (.ref f) = true)
    (h : wpAny (model prog w) A.in1 (call (.ref f) [.ref x, b]) (fun v s' => ∃ r : Bool, v = .bool r ∧ Q (.bool (!r)) s') E s) : wpAny (model prog w) A (richCompare .NotEq (.ref x) b) Q E s := by
  have inner : wpAny (model prog w) A (call (.builtin "object.__ne__") [.ref x, b]) (fun v s' => ∃ r : Bool, v = .bool r ∧ Q (.bool r) s') E s := by
    refine wpAny_call (codeAny_call_builtin PySem.F.slot_object_ne.plain PySem.F.entry_object_ne (PySem.W.check_slot (i := "object.__ne__") (owner := "object") (n := "__ne__") (by decide +kernel) (by decide +kernel) (J.type.andThen (PySem.W.looks_mroIn X mo)) (PySem.F.args_object_ne_2 _ _) ?_))
    unfold Builtin.«object.__ne__»
    refine wpAny_bind (m := slotArgs "__ne__" 1 _) (wpAny_pure ?_)
    refine wpAny_bind (m := cRoomFor _ _) (wpAny_cRoomFor (by show A.units + 1 < cLine; omega) ?_)
    refine wpAny_bind (m := callSpecialIfBound? (.ref x) (Str.ofString "__eq__") _) (PySem.W.ifBound_K X J ae fn (wpAny_mono h ?_ fun _ _ z => z))
    rintro v s' ⟨r, rfl, q⟩
    exact wpAny_bind (wpAny_truthy_bool (wpAny_pure ⟨!r, rfl, q⟩))
  have one : wpAny (model prog w) A (tryCompare (.ref x) "__ne__" b) (fun r s' => ∃ z : Bool, r = some (.bool z) ∧ Q (.bool z) s') E s := by
    unfold tryCompare
    refine wpAny_bind ?_
    simp only [callSpecialIfBound?, bindSpecialIfBound?]
    refine wpAny_holding (wpAny_bind (wpAny_bind (wpAny_bind (J.type.here ((PySem.W.looks_findIn X an).here ?_)))))
    refine wpAny_bind (wpAny_askSetting (wpAny_ite ?_))
    have last : wpAny (model prog w) A (call (.builtin "object.__ne__") ([.ref x] ++ [b]) >>= fun v => pure (some v)) (fun r s' => wpAny (model prog w) A (match r with
      | some .notImplemented | none => pure none
      | some v => pure (some v)) (fun r s' => ∃ z : Bool, r = some (.bool z) ∧ Q (.bool z) s') E s') E s := by
      refine wpAny_bind (wpAny_mono inner ?_ fun _ _ z => z)
      rintro v s' ⟨r, rfl, q⟩
      exact wpAny_pure (wpAny_pure ⟨r, rfl, q⟩)
    split
    · exact wpAny_bind ((PySem.W.Looks.of_pure (PySem.F.slot_object_ne.bind _)).here (wpAny_pure (by exact last)))
    · exact wpAny_tryCatch (wpAny_bind ((PySem.W.Looks.of_pure (PySem.F.slot_object_ne.bind _)).here (wpAny_pure (by exact last))))
  unfold richCompare
  simp only [oneThing_ref]
  refine wpAny_holding (wpAny_bind (wpAny_cRoomFor (by omega) ?_))
  refine wpAny_bind (J.type.here (wpAny_bind (hb.here ?_)))
  have fin : wpAny (model prog w) A (tryCompare (.ref x) (cmpInfo .NotEq).2.1 b) (fun r s' => ∃ z : Bool, r = some (.bool z) ∧ Q (.bool z) s') E s := one
  split
  · rename_i q
    have e : PySem.W.subIn K tb (.ref C) = some false := by
      rcases Bool.or_eq_true_iff.mp nf with e | e
      · rw [beq_iff_eq.mp e] at q
        simp at q
      · exact beq_iff_eq.mp e
    refine wpAny_bind ((PySem.W.looks_subIn X e).here ?_)
    simp only [Bool.false_eq_true, if_false]
    refine wpAny_bind (wpAny_mono fin ?_ fun _ _ z => z)
    rintro r s' ⟨z, rfl, q⟩
    exact wpAny_pure q
  · refine wpAny_bind (wpAny_pure ?_)
    simp only [Bool.false_eq_true, if_false]
    refine wpAny_bind (wpAny_mono fin ?_ fun _ _ z => z)
    rintro r s' ⟨z, rfl, q⟩
    exact wpAny_pure q
/-! ### own special methods (__len__, __add__, __contains__, __eq__ ..) at instances of an own class -/
/-- the class at C has the def at f as its special method nm -/
structure Spm (K : PySem.W.Frag) (C : Addr) (nm : Str) (f : Addr) : Prop where
  at_ : PySem.W.findIn K (.ref C) nm = some (some (.ref f))
  fn : PySem.W.isFn K (.ref f) = true
section
variable {X : Cx} {CX : CXT} {n : Nat} {f C : Addr} {fd : FuncData} {ps : List Str} {sp : Sp} {E : XK}
/-- the def runs below the running body -/
theorem own_run {A : Around} {pins : List (Addr × Obj)} {s : Shared} {σ : L2.St} {H : Hp} {Q : VK} {us : List Value} {vs : List V} (F : FnOk X.prog X.w X.K X.mg X.base CX n f fd ps sp) (hb : Binds X.K fd ps []) (hx : Passes CX X E) (sb : Sub X n A)
    (I : Inv X pins σ H s) (r : Vals vs us) (h : sp vs H Q E) : wpAny (model X.prog X.w) A (call (.ref f) us) (EP X pins σ Q) X.xe s := by
  have z := I.env0
  have e0 : Env0 X.prog X.w X.K X.mg X.base A X.stack s H := ⟨by rw [sb.fr]; exact z.frames, z.mod, z.bs, z.bsz, z.funs, z.frf, z.hok, z.bare⟩
  have ln := F.len _ _ _ _ h
  have bi : BindsTo s fd ⟨us, []⟩ (ps.zip us) := by
    have q := hb s us I.kIn (by rw [List.append_nil, ← r.length]; exact ln)
    rwa [List.append_nil] at q
  refine wpAny_call (codeAny_mono (F.run A X.stack s H ⟨us, []⟩ us vs Q E sb.room e0 bi r h) ?_)
  rintro (e | out) s' got
  · exact hx pins σ H s e s' I got
  · match out, got with
    | .ret u, got => exact I.after got
    | .next, got => exact got.elim
    | .brk, got => exact got.elim
    | .cont, got => exact got.elim
theorem inst_of {pins : List (Addr × Obj)} {s : Shared} {σ : L2.St} {H : Hp} {a dx : Addr} {fs : List (Str × V)} (I : Inv X pins σ H s) (h : H a = some (.ins C dx fs)) : ∃ (ox : Obj) (od : Option Obj), PySem.W.InstAt s.heap a ox C od := by
  obtain ⟨mA, J, _⟩ := ins_get I.hok h
  obtain ⟨od, J, _⟩ := J.look
  exact ⟨_, _, J⟩
/-- len(o) -/
def rLenO (C : Addr) (sp : Sp) (E : XK) : List V → Hp → VK → Prop := fun xs H Q => ∃ (a dx : Addr) (fs : List (Str × V)), xs = [V.ref a] ∧ H a = some (.ins C dx fs) ∧ sp [.ref a] H (fun z H' => ∃ i : Int, z = .int i ∧ 0 ≤ i ∧ i < 2 ^ 63 ∧ Q (.int i) H') E
theorem call_lenO (m : Spm X.K C "__len__" f) (F : FnOk X.prog X.w X.K X.mg X.base CX n f fd ps sp) (hb : Binds X.K fd ps []) (hr : Room (n + 1) X.A) (hx : Passes CX X E) : CallR X (.builtin "len") (rLenO C sp E) := by
  intro pins s σ H xs us Q I r h
  obtain ⟨a, dx, fs, rfl, ha, q⟩ := h
  obtain ⟨u, rfl, ru⟩ := vals1 r
  cases (show u = Value.ref a from ru)
  obtain ⟨ox, od, J⟩ := inst_of I ha
  obtain ⟨mm, hF⟩ := I.fr
  refine PySem.W.len_K hF I.ok.mod.kin J m.at_ m.fn (wpAny_mono (own_run (A := X.A.in1) (vs := [.ref a]) F hb hx ⟨hr.in1, rfl⟩ I (.cons rfl .nil) q) ?_ fun _ _ z => z)
  rintro v s' ⟨z, H', I', rz, i, rfl, i0, i1, q⟩
  obtain ⟨t, rfl⟩ := (show ∃ t, v = Value.int i t from rz)
  exact ⟨⟨i0, i1⟩, .int i, H', I'.tok _, ⟨_, rfl⟩, q⟩
/-- x op y, both of the class -/
def rBinO (C : Addr) (sp : Sp) (E : XK) : R2 := fun x y H Q => ∃ (a dx : Addr) (fs : List (Str × V)) (b dy : Addr) (gs : List (Str × V)), x = .ref a ∧ y = .ref b ∧ H a = some (.ins C dx fs) ∧ H b = some (.ins C dy gs) ∧ sp [x, y] H Q E
theorem op_binO {op : Operator} (m : Spm X.K C (PySem.dunder op.info.2) f) (hc : PySem.W.selfFirst X.K C = true) (F : FnOk X.prog X.w X.K X.mg X.base CX n f fd ps sp) (hb : Binds X.K fd ps []) (hr : Room n X.A) (hx : Passes CX X E) : OpR X (binaryOp op) (rBinO C sp E) := by
  intro pins s σ H x y v u Q I rx ry h
  obtain ⟨a, dx, fs, b, dy, gs, rfl, rfl, ha, hb', q⟩ := h
  cases (show v = Value.ref a from rx)
  cases (show u = Value.ref b from ry)
  obtain ⟨ox, od, J⟩ := inst_of I ha
  obtain ⟨oy, ody, J'⟩ := inst_of I hb'
  obtain ⟨mm, hF⟩ := I.fr
  refine PySem.W.binop_K hF I.ok.mod.kin J J'.type hc m.at_ m.fn (wpAny_mono (own_run (vs := [.ref a, .ref b]) F hb hx ⟨hr, rfl⟩ I (.cons rfl (.cons rfl .nil)) q) ?_ fun _ _ z => z)
  rintro v s' ⟨z, H', I', rz, q⟩
  exact SlX.cmpback rz ⟨z, H', I', rz, q⟩
/-- x in o, x not in o -/
def rInO (neg : Bool) (C : Addr) (sp : Sp) (E : XK) : R2 := fun x y H Q => ∃ (b dy : Addr) (gs : List (Str × V)), y = .ref b ∧ H b = some (.ins C dy gs) ∧ sp [y, x] H (fun z H' => ∃ r : Bool, z = .bl r ∧ Q (.bl (if neg = true then !r else r)) H') E
theorem op_inO (m : Spm X.K C "__contains__" f) (F : FnOk X.prog X.w X.K X.mg X.base CX n f fd ps sp) (hb : Binds X.K fd ps []) (hr : Room n X.A) (hx : Passes CX X E) : OpR X (compareOp .In) (rInO false C sp E) := by
  intro pins s σ H x y v u Q I rx ry h
  obtain ⟨b, dy, gs, rfl, hb', q⟩ := h
  cases (show u = Value.ref b from ry)
  obtain ⟨oy, ody, J⟩ := inst_of I hb'
  obtain ⟨mm, hF⟩ := I.fr
  refine PySem.W.in_K hF I.ok.mod.kin J m.at_ m.fn (wpAny_mono (own_run (vs := [.ref b, x]) F hb hx ⟨hr, rfl⟩ I (.cons rfl (.cons rx .nil)) q) ?_ fun _ _ z => z)
  rintro v s' ⟨z, H', I', rz, r, rfl, q⟩
  cases (show v = Value.bool r from rz)
  exact wpAny_truthy_bool ⟨.bl r, H', I', rfl, q⟩
theorem op_notInO (m : Spm X.K C "__contains__" f) (F : FnOk X.prog X.w X.K X.mg X.base CX n f fd ps sp) (hb : Binds X.K fd ps []) (hr : Room n X.A) (hx : Passes CX X E) : OpR X (compareOp .NotIn) (rInO true C sp E) := by
  intro pins s σ H x y v u Q I rx ry h
  obtain ⟨b, dy, gs, rfl, hb', q⟩ := h
  cases (show u = Value.ref b from ry)
  obtain ⟨oy, ody, J⟩ := inst_of I hb'
  obtain ⟨mm, hF⟩ := I.fr
  refine PySem.W.notIn_K hF I.ok.mod.kin J m.at_ m.fn (wpAny_mono (own_run (vs := [.ref b, x]) F hb hx ⟨hr, rfl⟩ I (.cons rfl (.cons rx .nil)) q) ?_ fun _ _ z => z)
  rintro v s' ⟨z, H', I', rz, r, rfl, q⟩
  cases (show v = Value.bool r from rz)
  exact wpAny_truthy_bool ⟨.bl (!r), H', I', rfl, q⟩
/-- x == y, both of the class -/
theorem op_eqO (m : Spm X.K C "__eq__" f) (F : FnOk X.prog X.w X.K X.mg X.base CX n f fd ps sp) (hb : Binds X.K fd ps []) (hr : Room n X.A) (hx : Passes CX X E) : OpR X (compareOp .Eq) (rBinO C sp E) := by
  intro pins s σ H x y v u Q I rx ry h
  obtain ⟨a, dx, fs, b, dy, gs, rfl, rfl, ha, hb', q⟩ := h
  cases (show v = Value.ref a from rx)
  cases (show u = Value.ref b from ry)
  obtain ⟨ox, od, J⟩ := inst_of I ha
  obtain ⟨oy, ody, J'⟩ := inst_of I hb'
  obtain ⟨mm, hF⟩ := I.fr
  show wpAny (model X.prog X.w) X.A (richCompare .Eq (.ref a) (.ref b)) (EP X pins σ Q) X.xe s
  refine PySem.W.cmp_K (op := .Eq) (tb := .ref C) hr.units0 hF I.ok.mod.kin J J'.type (by simp [PySem.W.notFirst]) m.at_ m.fn (wpAny_mono (own_run (vs := [.ref a, .ref b]) F hb hx ⟨hr, rfl⟩ I (.cons rfl (.cons rfl .nil)) q) ?_ fun _ _ z => z)
  rintro v s' ⟨z, H', I', rz, q⟩
  exact SlX.cmpback rz ⟨z, H', I', rz, q⟩
/-- x != y, both of the class, which has no __ne__ of its own -/
def rNeO (C : Addr) (sp : Sp) (E : XK) : R2 := fun x y H Q => ∃ (a dx : Addr) (fs : List (Str × V)) (b dy : Addr) (gs : List (Str × V)), x = .ref a ∧ y = .ref b ∧ H a = some (.ins C dx fs) ∧ H b = some (.ins C dy gs) ∧ sp [x, y] H (fun z H' => ∃ r : Bool, z = .bl r ∧ Q (.bl (!r)) H') E
theorem op_neO (m : Spm X.K C "__eq__" f) (an : PySem.W.findIn X.K (.ref C) "__ne__" = some (some (.builtin "object.__ne__"))) (mo : PySem.W.mroIn X.K C (.type "object") = some true) (F : FnOk X.prog X.w X.K X.mg X.base CX n f fd ps sp) (hb : Binds X.K fd ps []) (hr : Room (n + 1) X.A) (hx : Passes CX X E) : OpR X (compareOp .NotEq) (rNeO C sp E) := by
  intro pins s σ H x y v u Q I rx ry h
  obtain ⟨a, dx, fs, b, dy, gs, rfl, rfl, ha, hb', q⟩ := h
  cases (show v = Value.ref a from rx)
  cases (show u = Value.ref b from ry)
  obtain ⟨ox, od, J⟩ := inst_of I ha
  obtain ⟨oy, ody, J'⟩ := inst_of I hb'
  show wpAny (model X.prog X.w) X.A (richCompare .NotEq (.ref a) (.ref b)) (EP X pins σ Q) X.xe s
  refine own_ne (by have := hr.un; omega) I.kIn J J'.type (by simp [PySem.W.notFirst]) an mo m.at_ m.fn (wpAny_mono (own_run (vs := [.ref a, .ref b]) F hb hx ⟨hr.in1, rfl⟩ I (.cons rfl (.cons rfl .nil)) q) ?_ fun _ _ z => z)
  rintro v s' ⟨z, H', I', rz, r, rfl, q⟩
  cases (show v = Value.bool r from rz)
  exact ⟨r, rfl, .bl (!r), H', I', rfl, q⟩
end
end Sm

set_option Elab.async false
set_option linter.all false
set_option maxRecDepth 100000
set_option maxHeartbeats 4000000
namespace Sm
open PySem PySem.Spec PyProof.Rows L2
/-! ### an attribute as a target: a.f, b.g = t -/
def gFld (K : PySem.W.Frag) (to : TE) (f : Str) : TG := fun v σ H Q => to σ H fun x G => ∃ (a C dx : Addr) (fs : List (Str × V)), x = V.ref a ∧ G a = some (.ins C dx fs) ∧ Cls K C ∧ NoAttr K C f ∧ fs.length < 1000 ∧ Q σ (upd G a (.ins C dx (putF f v fs)))
theorem pg_fld {X : Cx} {o : Expr} {f : Str} {pos : Pos} {to : TE} (ho : PE X o to) : PG X (.Attribute o f pos) (gFld X.K to f) := by
  constructor
  intro pins s σ H v u Q I r want
  rw [assign_Attribute]
  refine wpAny_bind (wpAny_holding (thn (ho.run pins s σ H _ I want) ?_))
  rintro ov s1 ⟨x, G, J, rx, a, C, dx, fs, rfl, ha, c, n, l, q⟩
  cases (show ov = Value.ref a from rx)
  refine wpAny_bind (wpAny_standAt (wpAny_bind (wpAny_holding (setattr_ok J ha c n l r fun s2 J2 => ?_))))
  exact wpAny_release ⟨σ, _, J2, q⟩
end Sm

set_option Elab.async false
set_option linter.all false
set_option maxRecDepth 100000
set_option maxHeartbeats 4000000
namespace Sm
open PySem PySem.Spec PyProof.Rows L2
/-! ### max of a tuple of ints -/
section
variable {prog : Program} {w : World} {A : Around} {E : Value → Shared → Prop} {s : Shared} {l : Addr} {its : List Value} {ns : List Int} {Q : Value → Shared → Prop}
theorem iter_intTup {xs : Array (Int × Tok)} (hl : s.heap.IsTuple l (intItems xs))
    (h : ∀ s₂ : Shared, s₂ = { s with heap := s.heap.push { cls := .type "tuple_iterator", data := .fields #[.ref l, .int 0 0] } } →
      (s₂.heap.IsTupleIter s.heap.objs.size l 0 ∧ s₂.heap.IsTuple l (intItems xs)) → (∀ b ∈ [s.heap.objs.size, l], b < s₂.heap.objs.size) → l ≠ s.heap.objs.size → Q (.ref s.heap.objs.size) s₂) :
    wpAny (model prog w) A (pyIter (.ref l)) Q E s := by
  have hlt : l < s.heap.objs.size := by obtain ⟨_, e, _⟩ := hl; exact Heap.lt_size e
  refine wpAny_pyIter_tuple hl (h _ rfl ⟨⟨_, Heap.get?_push_size _ rfl, rfl, rfl⟩, hl.push _⟩ (fun b hb => ?_) (Nat.ne_of_lt hlt))
  show b < (s.heap.push _).objs.size
  rw [Heap.size_push]
  rcases List.mem_cons.mp hb with rfl | hb
  · exact Nat.lt_succ_self _
  · rcases List.mem_cons.mp hb with rfl | hb
    · exact Nat.lt_succ_of_lt hlt
    · cases hb
theorem old_keptT {h' : Heap} (hk : ∀ b o, b ∉ [s.heap.objs.size] → (s.heap.push { cls := .type "tuple_iterator", data := .fields #[.ref l, .int 0 0] }).get? b = some o → h'.get? b = some o) :
    ∀ b o, s.heap.get? b = some o → h'.get? b = some o := fun b o e => by
  refine hk b o (fun hm => ?_) (Heap.get?_push_of_some _ e)
  rcases List.mem_cons.mp hm with e1 | hm
  · exact absurd (e1 ▸ Heap.lt_size e) (Nat.lt_irrefl _)
  · cases hm
theorem max_intTup {xs : Array (Int × Tok)} (hh : A.handled = none) (hl : s.heap.IsTuple l (intItems xs)) (hne : 0 < xs.size)
    (h : ∀ v h' tk, (intItems xs)[argBest (fun i j => decide (numAt xs i > numAt xs j)) (xs.size - 1)]? = some v → (∀ b o, s.heap.get? b = some o → h'.get? b = some o) → Q v { s with heap := h', toks := tk }) :
    wpAny (model prog w) A (call (.builtin "max") [.ref l]) Q E s := by
  have hlt : l < s.heap.objs.size := by obtain ⟨_, e, _⟩ := hl; exact Heap.lt_size e
  refine call_max_walk (iter_intTup hl fun s₂ e st hfp hlI => ?_)
  subst e
  refine ⟨_, _, _, _, _, _, _, rfl, Walks.tuple (A := A.in1) hh _ l hlI (intItems xs), st, hfp, by simpa [intItems] using hne, CmpOf.ints_gt (numAt xs) (fun _ _ => intItems_at), fun v h' tk hP hk => ?_⟩
  exact h v h' tk (by simpa [intItems] using hP) (old_keptT hk)
theorem max_rawT (hh : A.handled = none) (hl : s.heap.IsTuple l its.toArray) (hi : IntsAre its ns) (hne : 0 < ns.length)
    (h : ∀ h' tk M t', (∀ b o, s.heap.get? b = some o → h'.get? b = some o) → M ∈ ns → (∀ a, a ∈ ns → a ≤ M) → Q (.int M t') { s with heap := h', toks := tk }) : wpAny (model prog w) A (call (.builtin "max") [.ref l]) Q E s := by
  obtain ⟨xs, e⟩ := hi.allInts.items
  have hn : numsOf (intItems xs).toList = ns := by rw [← e]; exact hi.numsOf
  rw [nums_intItems] at hn
  subst hn
  rw [e] at hl
  have hsz : 0 < xs.size := by simpa using hne
  refine max_intTup hh hl hsz fun v h' tk hv hk => ?_
  obtain ⟨t, rfl⟩ := intItems_at hv
  obtain ⟨h1, h2⟩ := argBest_gt (numAt xs) (xs.size - 1)
  refine h h' tk _ t hk ?_ fun a ha => ?_
  · rw [numAt_eq]; exact PySem.getD_mem (by rw [List.length_map, Array.length_toList]; omega)
  · obtain ⟨j, hj, rfl⟩ := mem_getD ha
    rw [List.length_map, Array.length_toList] at hj
    rw [← numAt_eq]; exact h2 j (by omega)
end
section
variable {X : Cx}
def rMaxT (K : PySem.W.Frag) : List V → Hp → VK → Prop := fun vs H Q => ∃ (a : Addr) (ns : List Int), vs = [V.ref a] ∧ SqT K H a (ns.map V.int) ∧ 0 < ns.length ∧ ∀ m, m ∈ ns → (∀ y, y ∈ ns → y ≤ m) → Q (.int m) H
theorem cr_maxT (hc : X.calm = true) : CallR X (.builtin "max") (rMaxT X.K) := by
  intro pins s σ H vs us Q I r h
  obtain ⟨a, ns, rfl, hs, hne, q⟩ := h
  obtain ⟨its, rv, hl, _⟩ := I.tuple hs
  rw [Vals.ref1 r]
  exact max_rawT (I.ok.hd hc) hl (rv.ints) hne fun h' tk m t' hk h1 h2 => ⟨.int _, H, I.kept hk, ⟨_, rfl⟩, q m h1 h2⟩
end
theorem walk_zipT {K : PySem.W.Frag} {a b : Addr} {xs ys : List V} {n : Nat} (h1 : xs.length = n) (h2 : ys.length = n) : Walk (RZ.ItzT K a b) n (fun H => SqT K H a xs ∧ SqT K H b ys) (YPair (fun i => xs[i]?) (fun i => ys[i]?)) := by
  refine ⟨fun i _ hi q => ?_, fun _ q => ⟨xs, ys, q.1, q.2, by omega⟩, fun i H v H' _ q y => ?_⟩
  · have h1 : i < xs.length := by omega
    have h2 : i < ys.length := by omega
    exact ⟨xs, ys, xs[i], ys[i], q.1, q.2, by simp [h1], by simp [h2]⟩
  · obtain ⟨T, x, z, h1, h2, h3, h4, h5⟩ := y
    exact ⟨T, x, z, h1, h2, h3, h4 xs q.1, h5 ys q.2⟩
end Sm

set_option Elab.async false
set_option linter.all false
set_option maxRecDepth 100000
set_option maxHeartbeats 4000000
namespace Sm
open PySem PySem.Spec PyProof.Rows L2 LamX
/-- what is raised in a lambda's body goes to who called it -/
theorem passE {X : Cx} {E : XK} (tk : Takes X (fun cls d _ H => E cls d H)) : Passes (L2.CX X.prog X.w) X E := fun pins σ H s e s' I c => passAt tk σ pins H s e s' I c
section
variable {X : Cx} {CX : CXT} {k : Nat} {f C : Addr} {fd : FuncData} {ps : List Str} {sp : Sp} {E : XK} {fe e : Expr} {es : List Expr} {tf : TE} {t : TA} {pos : Pos}
/-- f(e, ..) where f gives an instance of a class with its own __call__ -/
theorem pe_ownCall (hf : PE X fe tf) (m : Spm X.K C "__call__" f) (fi : PySem.W.fnIn X.K f = true) (F : FnOk X.prog X.w X.K X.mg X.base CX k f fd ps sp) (hb : Binds X.K fd ps []) (hr : Room k X.A) (hx : Passes CX X E) (ha : PA X (e :: es) t)
    (ht : eval (.Call fe (e :: es) [] pos) X.env = (do callWith pos (← eval fe X.env) [] (backTo pos (starEach (e :: es) X.env)) (backToKw pos (keywordEach [] X.env))) := by rfl)
    (he : starEach (e :: es) X.env = (false, eval e X.env) :: starEach es X.env := by rfl) (hpl : (backTo pos (starEach es X.env)).any (·.1) = false := by rfl) : PE X (.Call fe (e :: es) [] pos) (StX.tCallO X C sp E tf t) :=
  StX.pe_callO hf ⟨m.at_, m.fn, fi⟩ ((F.raw hb .nil).imp fun vs H Q E h => by rw [List.append_nil]; exact h) hr hx ha ht he hpl
end
/-- told: try: a() / except e as n: a suite that is told by ts; behind it tr -/
def TAx (K : PySem.W.Frag) (CS : Addr) (Ng : List Str) (i : Nat) (ts : Addr → Value → Option Addr → TS) (tr : TS) : (XK → Hp → VK → Prop) → Hp → VK → Prop := fun tl H Q =>
  ∀ f : Addr, tl (fun cls d H' => ∃ b, PySem.W.exmOne K cls (.ref CS) = some b ∧ (b = true → ∀ (σ : L2.St) (c : Addr), σ.length = Ng.length → H' c = none → ts c cls d { nx := fun σ' H2 => tr { nx := fun _ H3 => Q .non H3, rt := Q } (σ'.set i none) H2, rt := Q } (σ.set i (some (.ref c))) H') ∧ (b = false → False)) H
    (fun _ H' => tr { nx := fun _ H2 => Q .non H2, rt := Q } (L2.start Ng [V.ref f]) H')
section
variable {X : Cx} {Ng : List Str} {x a e n q : Str} {sg : Scope} {g CS : Addr} {cdg : Value} {i : Nat} {b₀ r₀ : Stmt} {suite rest : List Stmt} {p1 p2 p3 p4 p5 p6 : Pos} {ts : Addr → Value → Option Addr → TS} {tr : TS}
/-- the def that calls what it got and drops the answer -/
theorem act_gives (hge : sg.names.lookup e = some .globalImplicit) (hme : X.mg e = some (.ref CS)) (hde : (e == ("__debug__" : Str)) = false) (h0 : ∀ f : Addr, (L2.start Ng [V.ref f])[0]? = some (some (V.ref f))) (nd : Ng.Nodup) (hi : Ng[i]? = some n)
    (hln : ∀ (s : Shared) (H : Hp), (cxOf C8.CX0 X.prog X.w X.K X.mg X.base Ng x sg g cdg X.A X.stack s H C8.E0).nox.env.kindOf n = some .local)
    (hsu : ∀ (s : Shared) (H : Hp) (c : Addr) (oe : Obj) (cls : Value) (d : Option Addr) (pn : List (Addr × Obj)), Zc cls d oe → (∃ vs, oe.data = .fields vs) → PSs ((cxOf C8.CX0 X.prog X.w X.K X.mg X.base Ng x sg g cdg X.A X.stack s H C8.E0).nox.suite c ((c, oe) :: pn)) (b₀ :: suite) (ts c cls d))
    (hrest : ∀ (s : Shared) (H : Hp), PSs (cxOf C8.CX0 X.prog X.w X.K X.mg X.base Ng x sg g cdg X.A X.stack s H C8.E0).nox (r₀ :: rest) tr) :
    GivesTo X Ng x sg g cdg (.Try [.Expr (.Call (.Name a p1) [] [] p2) p3] [.ExceptHandler (some (.Name e p4)) (some n) (b₀ :: suite) p5] [] [] p6 :: r₀ :: rest) a q (TAx X.K CS Ng i ts tr) := by
  intro f c' s H Q tl act known told
  let Z := (cxOf C8.CX0 X.prog X.w X.K X.mg X.base Ng x sg g cdg X.A X.stack s H C8.E0).nox
  have glob : Gl Z e := hge
  let body : WX → TS := fun W D σ H1 => ∃ out : XK, (∀ cls d (σ' : L2.St) H', out cls d H' → σ'.length = Ng.length → W cls d σ' H') ∧ σ[0]? = some (some (.ref f)) ∧ H1 c' = some (CodeO c' q) ∧ tl out H1 (fun _ H2 => D.nx σ H2)
  have inner : ∀ (W : WX) (pn : List (Addr × Obj)) (xe : Value → Shared → Prop), Takes (Z.tr pn xe) W → PassesOwn (model Z.prog Z.w) Z.A Z.env xe → PSs (Z.tr pn xe) [.Expr (.Call (.Name a p1) [] [] p2) p3] (body W) := by
    intro W pn xe tk _
    refine ⟨fun pins s' σ H' D I told' => ?_⟩
    obtain ⟨out, hW, h1, h2, h3⟩ := told'
    exact (pss_one (ps_expr (pos := p3) (act _ pn xe out p1 p2 (takes_len tk) hW))).run pins s' σ H' D I ⟨h1, h2, h3⟩
  refine ⟨_, pss_cons (ps_try_as (X := Z) (c := .ref CS) (i := i) (tb := body) (ts := ts) (Wout := fun _ _ _ _ => False) rfl rfl nd hi (hln s H) ⟨glob, hde, .inl hme⟩ L2.takes0 inner (fun c oe cls d pn hz hf => hsu s H c oe cls d pn hz hf)) (hrest s H), ?_⟩
  exact ⟨_, fun cls d σ' H' w len => by
    obtain ⟨b, e1, e2, e3⟩ := w
    exact ⟨b, e1, fun hb c nc => e2 hb σ' c len nc, fun hb => e3 hb⟩, h0 f, known, told f⟩
end
end Sm

set_option Elab.async false
set_option linter.all false
set_option maxRecDepth 100000
set_option maxHeartbeats 4000000
namespace Sm
open PySem PySem.Spec PyProof.Rows L2
/-! ### an own exception class without fields: C(), isinstance of it -/
theorem pmk_own0 {X : Cx} {C : Addr} {bmB : List Value} {B newId initId : String} {x : Str} {p pos : Pos} (F : ExcBaseFacts B newId initId bmB) (q : PySem.W.excIn X.K C bmB newId = true) (gC : X.mg x = some (.ref C))
    (kC : PySem.W.keepIn X.K (.ref C) = true) (r : Raises X (.ref C)) (hg : Gl X x) (hdb : (x == ("__debug__" : Str)) = false := by decide) : PMk X (.Call (.Name x p) [] [] pos) (fun _ H Q => Q (.ref C) none H) := by
  intro pins s σ H Q I h
  refine wpAny_Call_Name_kw (ld_glob I hg gC ?_ hdb)
  refine PySem.W.callWith_K0 I.kIn kC ?_
  show wpAny _ _ (call (.ref C) []) _ _ _
  obtain ⟨bm, N, nm, qn, bs, hdct, sn, sub, ab, col, dd, k0, k1, k2, k3, k5, mN, hC, hN, hni, T⟩ := exc_obj I.kIn q
  refine wpAny_call_exc_subT F T hC hN hni (fun h' e hm => ?_) (by show 0 ≤ sizeLine; exact Nat.zero_le _)
  exact mk_of I hm r h (I.hok.gone hm.new)
/-- isinstance of the exception that the suite holds, which has no dict: one class -/
def rIsX0 (K : PySem.W.Frag) (cls : Value) (d : Option Addr) (a : Addr) : List V → Hp → VK → Prop := fun xs H Q => ∃ (D : Addr) (c : V) (cv : Value) (b : Bool), cls = .ref D ∧ d = none ∧ ExcC K D ∧ xs = [.ref a, c] ∧ ClsV c cv ∧ PySem.W.kitOne K (.ref D) cv = some b ∧ Q (.bl b) H
theorem call_isX0 {X : Cx} {a : Addr} {cls : Value} {d : Option Addr} {oe : Obj} {pn : List (Addr × Obj)} (hz : Zc cls d oe) (hf : ∃ vs, oe.data = .fields vs) : CallR (X.suite a ((a, oe) :: pn)) (.builtin "isinstance") (rIsX0 X.K cls d a) := by
  intro pins s σ H xs us Q I r h
  obtain ⟨D, c, cv, b, rfl, rfl, C, rfl, k, e, q⟩ := h
  obtain ⟨ha, _⟩ := I.pin (a, oe) (List.mem_append_left _ List.mem_cons_self)
  obtain ⟨vs, hd⟩ := hf
  have J : PySem.W.InstAt s.heap a oe D none := ⟨ha, hz.1, by unfold PySem.W.notCls; rw [hd] <;> rfl, by rw [hz.2]; trivial⟩
  obtain ⟨cd, hc, _⟩ := PySem.W.any_some C.hd
  have Z := PySem.W.kitx_exc (x := a) (ox := oe) (od := none) (by rw [hc]; rfl) C.hg C.hk C.hs C.ha C.hn C.ht C.hm
  obtain ⟨u1, u2, rfl, r1, r2⟩ := vals2 r
  cases (show u1 = Value.ref a from r1)
  cases k.eq r2
  exact PySem.W.kia_one Z I.kIn J e (fun z => nomatch z) fun tk => ⟨.bl b, H, I.kept (t' := tk) fun _ _ z => z, rfl, q⟩
end Sm
namespace PySem.W
open PySem PyProof.Rows
theorem own_binT {prog : Program} {w : World} {A : Around} {E : Value → Shared → Prop} {s : Shared} {K : Frag} {x C f : Addr} {ox : Obj} {od : Option Obj} {T : String} {op : Operator} {b : Value} {fo ro : Option Value} {Q : Value → Shared → Prop} (X : K.In s.heap) (I : InstAt s.heap x ox C od)
    (hb : Looks (model prog w) s.heap (typeOf b) (.type T)) (hc : selfFirst K C = true) (hs : findIn K (.ref C) (PySem.dunder op.info.2) = some (some (.ref f))) (hf : isFn K (.ref f) = true) (hr : findIn K (.ref C) (dunderR op.info.2) = some none)
    (h1 : findIn K (.type T) (PySem.dunder op.info.2) = some fo) (h2 : findIn K (.type T) (dunderR op.info.2) = some ro) (hsub : subIn K (.type T) (.ref C) = some false)
    (h : wpAny (model prog w) A (call (.ref f) [.ref x, b]) (CmpBack Q) E s) : wpAny (model prog w) A (binaryOp op (.ref x) b) Q E s := by
  obtain ⟨cd, rest, hcd, hm⟩ := ksp_first hc
  cases hi : op.info with
  | mk sym nm =>
    rw [hi] at hs hr h1 h2
    have one := ksp_try X I hs hf h
    have fin : ∀ s0 : Shared, wpAny (model prog w) A (tryMethod (.ref x) (PySem.dunder nm) b) (fun r s' => ∃ v, r = some v ∧ Q v s') E s0 → wpAny (model prog w) A (tryMethod (.ref x) (PySem.dunder nm) b) (fun r s' => ∃ v, r = some v ∧ Q v s') E s0 := fun _ z => z
    obtain ⟨hh, g, d, tt, os⟩ := s
    have t1 : Looks (model prog w) hh (typeOf (.ref x)) (.ref C) := I.type
    have t2 : Looks (model prog w) hh (typeOf b) (.type T) := hb
    have s1 : Looks (model prog w) hh (fillsNumberSlot (.ref C) nm) true := fills_K X hcd hm hs
    have s2 : Looks (model prog w) hh (fillsNumberSlot (.type T) nm) ((fo.isSome && !isSeqSlot fo) || (ro.isSome && !isSeqSlot ro)) := ksp_fillsT X h1 h2
    have u1 : Looks (model prog w) hh (isSubtype (.type T) (.ref C)) false := looks_subIn X hsub
    have p1 : Looks (model prog w) hh (numberSlotInPython (.ref C) nm) true := ksp_inPy X hs hr (.inl rfl)
    have p2 : Looks (model prog w) hh (numberSlotInPython (.type T) nm) false := Looks.of_pure rfl
    have v2 : Looks (model prog w) hh (typeLookup (.type T) (dunderR nm)) ro := looks_findIn X h2
    have ne : (Value.ref C == Value.type T) = false := beq_eq_false_iff_ne.mpr fun q => nomatch q
    simp only [binaryOp, hi]
    refine wpAny_holding (wpAny_bind ?_)
    unfold binaryOp1
    refine wpAny_bind (t1.at (wpAny_bind (t2.at (wpAny_bind (s1.at ?_)))))
    simp only [ne, Bool.false_eq_true, if_false]
    revert s2
    generalize ((fo.isSome && !isSeqSlot fo) || (ro.isSome && !isSeqSlot ro)) = right
    intro s2
    cases right <;>
    · ksp_lk
      refine wpAny_mono one (fun r s' got => ?_) fun _ _ e => e
      obtain ⟨v, rfl, q⟩ := got
      ksp_lk
      exact q
end PySem.W
namespace Sm
open PySem PySem.Spec PyProof.Rows L2
/-- what the written part says of built-in kinds at the right of an own op -/
def kindsOk (K : PySem.W.Frag) (C : Addr) (op : Operator) : Bool := ["NoneType", "bool", "int", "str", "list", "tuple", "dict"].all fun T => (PySem.W.findIn K (.type T) (PySem.dunder op.info.2)).isSome && (PySem.W.findIn K (.type T) (dunderR op.info.2)).isSome && (PySem.W.subIn K (.type T) (.ref C) == some false)
theorem kindsOk_at {K : PySem.W.Frag} {C : Addr} {op : Operator} (h : kindsOk K C op = true) (d : PyData) : ∃ fo ro, PySem.W.findIn K (.type (tyN d)) (PySem.dunder op.info.2) = some fo ∧ PySem.W.findIn K (.type (tyN d)) (dunderR op.info.2) = some ro ∧ PySem.W.subIn K (.type (tyN d)) (.ref C) = some false := by
  have m : tyN d ∈ ["NoneType", "bool", "int", "str", "list", "tuple", "dict"] := by cases d <;> simp [tyN]
  have q := List.all_eq_true.mp h _ m
  rw [Bool.and_eq_true, Bool.and_eq_true] at q
  obtain ⟨⟨a, b⟩, c⟩ := q
  obtain ⟨fo, ea⟩ := Option.isSome_iff_exists.mp a
  obtain ⟨ro, eb⟩ := Option.isSome_iff_exists.mp b
  exact ⟨fo, ro, ea, eb, eq_of_beq c⟩
section
variable {X : Cx} {CX : CXT} {n : Nat} {f C : Addr} {fd : FuncData} {ps : List Str} {sp : Sp} {E : XK}
/-- x op y, x of the class, y of any built-in kind -/
def rBinQ (K : PySem.W.Frag) (C : Addr) (sp : Sp) (E : XK) : R2 := fun x y H Q => ∃ (a dx : Addr) (fs : List (Str × V)) (d : PyData), x = .ref a ∧ H a = some (.ins C dx fs) ∧ Dq K H y d ∧ sp [x, y] H Q E
theorem op_binQ {op : Operator} (m : Spm X.K C (PySem.dunder op.info.2) f) (hc : PySem.W.selfFirst X.K C = true) (nr : PySem.W.findIn X.K (.ref C) (dunderR op.info.2) = some none) (kd : kindsOk X.K C op = true) (F : FnOk X.prog X.w X.K X.mg X.base CX n f fd ps sp) (hb : Binds X.K fd ps []) (hr : Room n X.A) (hx : Passes CX X E) : OpR X (binaryOp op) (rBinQ X.K C sp E) := by
  intro pins s σ H x y v u Q I rx ry h
  obtain ⟨a, dx, fs, d, rfl, ha, hy, q⟩ := h
  cases (show v = Value.ref a from rx)
  obtain ⟨ox, od, J⟩ := inst_of I ha
  obtain ⟨P, Z, p, _⟩ := kit_of I ry hy.ty
  obtain ⟨fo, ro, e1, e2, e3⟩ := kindsOk_at kd d
  refine PySem.W.own_binT I.kIn J (Z.ty _ _ I.kIn p) hc m.at_ m.fn nr e1 e2 e3 (wpAny_mono (own_run (vs := [.ref a, y]) F hb hx ⟨hr, rfl⟩ I (.cons rfl (.cons ry .nil)) q) ?_ fun _ _ z => z)
  rintro v s' ⟨z, H', I', rz, q⟩
  exact SlX.cmpback rz ⟨z, H', I', rz, q⟩
end
end Sm

set_option Elab.async false
set_option linter.all false
set_option maxRecDepth 100000
set_option maxHeartbeats 4000000
namespace Sm
open PySem PySem.Spec PyProof.Rows L2
/-! ### own ops within try: what is raised is wished for at the slots as they are -/
section
variable {X : Cx} {CX : CXT} {n : Nat} {f C : Addr} {fd : FuncData} {ps : List Str} {sp : Sp} {E : L2.St → XK}
theorem own_runS {A : Around} {pins : List (Addr × Obj)} {s : Shared} {σ : L2.St} {H : Hp} {Q : VK} {us : List Value} {vs : List V} {E : XK} (F : FnOk X.prog X.w X.K X.mg X.base CX n f fd ps sp) (hb : Binds X.K fd ps []) (hx : PassesAt CX X σ E) (sb : Sub X n A)
    (I : Inv X pins σ H s) (r : Vals vs us) (h : sp vs H Q E) : wpAny (model X.prog X.w) A (call (.ref f) us) (EP X pins σ Q) X.xe s := by
  have z := I.env0
  have e0 : Env0 X.prog X.w X.K X.mg X.base A X.stack s H := ⟨by rw [sb.fr]; exact z.frames, z.mod, z.bs, z.bsz, z.funs, z.frf, z.hok, z.bare⟩
  have ln := F.len _ _ _ _ h
  have bi : BindsTo s fd ⟨us, []⟩ (ps.zip us) := by
    have q := hb s us I.kIn (by rw [List.append_nil, ← r.length]; exact ln)
    rwa [List.append_nil] at q
  refine wpAny_call (codeAny_mono (F.run A X.stack s H ⟨us, []⟩ us vs Q E sb.room e0 bi r h) ?_)
  rintro (e | out) s' got
  · exact hx pins H s e s' I got
  · match out, got with
    | .ret u, got => exact I.after got
    | .next, got => exact got.elim
    | .brk, got => exact got.elim
    | .cont, got => exact got.elim
theorem pe_binOS {op : Operator} {a b : Expr} {ta tb : TE} {pos : Pos} (m : Spm X.K C (PySem.dunder op.info.2) f) (hc : PySem.W.selfFirst X.K C = true) (F : FnOk X.prog X.w X.K X.mg X.base CX n f fd ps sp) (hb : Binds X.K fd ps []) (hr : Room n X.A) (hx : ∀ σ, PassesAt CX X σ (E σ)) (ha : PE X a ta) (hb' : PE X b tb) :
    PE X (.BinOp a op b pos) (fun σ H Q => ta σ H fun x H1 => tb σ H1 fun y H2 => rBinO C sp (E σ) x y H2 Q) := by
  refine ⟨fun pins s σ H Q I h => wpAny_BinOp (binT ha hb' I h fun v u s2 x y H2 I2 rx ry q => ?_)⟩
  obtain ⟨a, dx, fs, b, dy, gs, rfl, rfl, ha, hb', q⟩ := q
  cases (show v = Value.ref a from rx)
  cases (show u = Value.ref b from ry)
  obtain ⟨ox, od, J⟩ := inst_of I2 ha
  obtain ⟨oy, ody, J'⟩ := inst_of I2 hb'
  obtain ⟨mm, hF⟩ := I2.fr
  refine PySem.W.binop_K hF I2.ok.mod.kin J J'.type hc m.at_ m.fn (wpAny_mono (own_runS (vs := [.ref a, .ref b]) F hb (hx σ) ⟨hr, rfl⟩ I2 (.cons rfl (.cons rfl .nil)) q) ?_ fun _ _ z => z)
  rintro v s' ⟨z, H', I', rz, q⟩
  exact SlX.cmpback rz ⟨z, H', I', rz, q⟩
theorem pe_binQS {K : PySem.W.Frag} {op : Operator} {a b : Expr} {ta tb : TE} {pos : Pos} (m : Spm X.K C (PySem.dunder op.info.2) f) (hc : PySem.W.selfFirst X.K C = true) (nr : PySem.W.findIn X.K (.ref C) (dunderR op.info.2) = some none) (kd : kindsOk X.K C op = true) (F : FnOk X.prog X.w X.K X.mg X.base CX n f fd ps sp) (hb : Binds X.K fd ps []) (hr : Room n X.A) (hx : ∀ σ, PassesAt CX X σ (E σ)) (ha : PE X a ta) (hb' : PE X b tb) (hK : X.K = K := by rfl) :
    PE X (.BinOp a op b pos) (fun σ H Q => ta σ H fun x H1 => tb σ H1 fun y H2 => rBinQ K C sp (E σ) x y H2 Q) := by
  subst hK
  refine ⟨fun pins s σ H Q I h => wpAny_BinOp (binT ha hb' I h fun v u s2 x y H2 I2 rx ry q => ?_)⟩
  obtain ⟨a, dx, fs, d, rfl, ha, hy, q⟩ := q
  cases (show v = Value.ref a from rx)
  obtain ⟨ox, od, J⟩ := inst_of I2 ha
  obtain ⟨P, Z, p, _⟩ := kit_of I2 ry hy.ty
  obtain ⟨fo, ro, e1, e2, e3⟩ := kindsOk_at kd d
  refine PySem.W.own_binT I2.kIn J (Z.ty _ _ I2.kIn p) hc m.at_ m.fn nr e1 e2 e3 (wpAny_mono (own_runS (vs := [.ref a, y]) F hb (hx σ) ⟨hr, rfl⟩ I2 (.cons rfl (.cons ry .nil)) q) ?_ fun _ _ z => z)
  rintro v s' ⟨z, H', I', rz, q⟩
  exact SlX.cmpback rz ⟨z, H', I', rz, q⟩
end
end Sm

set_option Elab.async false
set_option linter.all false
set_option maxRecDepth 100000
set_option maxHeartbeats 4000000
namespace Sm
open PySem PySem.Spec PyProof.Rows L2
/-! ### iter(t) of a tuple as a value; list(o) of an own __iter__ that gives one, with an own __len__ -/
/-- at it a tuple's iterator: it stands before place i of the tuple at t -/
def ItT (t it : Addr) (i : Nat) : HO := .ext fun h => IsTupIter h it t i
/-- .. that has ended -/
def ItX (it : Addr) : HO := .ext fun h => ∃ o, h.get? it = some o
theorem itT_ok {P : Program} {w : World} {H : Hp} {h : Heap} {t it : Addr} {i : Nat} (e : IsTupIter h it t i) : ObjOk P w H h it (ItT t it i) :=
  ⟨e, let ⟨o, q, _⟩ := e; ⟨o, q⟩, fun h1 h2 q k => let ⟨o, a, b⟩ := q; ⟨o, k _ a, b⟩⟩
theorem itX_ok {P : Program} {w : World} {H : Hp} {h : Heap} {it : Addr} (e : ∃ o, h.get? it = some o) : ObjOk P w H h it (ItX it) := ⟨e, e, fun h1 h2 q k => let ⟨o, a⟩ := q; ⟨o, k _ a⟩⟩
section
variable {X : Cx} {pins : List (Addr × Obj)} {σ : L2.St} {H : Hp} {s : Shared} {t it : Addr} {i : Nat}
theorem itT_get (I : Inv X pins σ H s) (e : H it = some (ItT t it i)) : IsTupIter s.heap it t i := (I.hok it _ e).1
end
section
variable {prog : Program} {w : World} {A : Around} {E : Value → Shared → Prop} {s : Shared}
theorem next_tuple_endX {it t : Addr} {i : Nat} {items} {Q : Option Value → Shared → Prop} (hh : A.handled = none)
    (hit : IsTupIter s.heap it t i) (ht : IsTup s.heap t items) (hx : items[i]? = none)
    (hQ : ∀ h', Heap.ExtBut it s.heap h' → (∃ o, h'.get? it = some o) → Q none { s with heap := h' }) : wpAny (model prog w) A (pyNext (.ref it)) Q E s := by
  obtain ⟨o, ho, hc, hd⟩ := id hit
  obtain ⟨ol, hol, _, nl, hdl⟩ := ht
  unfold pyNext
  refine wpAny_bind (wpAny_attempt (wpAny_callSpecial?_slot (name := Str.ofString "__next__") hit.typeIs slot_tupleiter_next
    (wpAny_call_entry slot_tupleiter_next hit.typeIs entry_tupleiter_next ?_ (args_tupleiter_next _))))
  show wpAny _ _ (field (.ref it) 0 >>= _) _ _ s
  refine wpAny_bind (wpAny_field ho hd (x := .ref t) rfl ?_)
  show wpAny _ _ (if (Value.ref t == Value.none) = true then _ else _) _ _ s
  rw [if_neg (show ¬ ((Value.ref t == Value.none) = true) from Bool.false_ne_true)]
  show wpAny _ _ (field (.ref it) 1 >>= _) _ _ s
  refine wpAny_bind (wpAny_field ho hd (x := .int i 0) rfl ?_)
  show wpAny _ _ (seqItems? (.ref t) >>= _) _ _ s
  refine wpAny_bind (wpAny_seqItems hol hdl ?_)
  simp only [Int.toNat_natCast, hx]
  refine wpAny_bind (wpAny_rule (wpAny_bind (wpAny_setField ho hd (by simp) ?_)))
  have up := Heap.get?_update_self (Obj.mapFields fun x => x.setIfInBounds 0 Value.none) ho (Obj.isFreed_of_fields (Obj.data_mapFields hd _))
  show wpAny _ _ (newExc (.type "StopIteration") [] >>= _) _ _ _
  refine wpAny_bind ?_
  simp only [newExc, newTuple]
  refine wpAny_bind (wpAny_newObj_type ?_ (by size_fits))
  refine wpAny_bind (m := firstArgMember _ _) (wpAny_of_eq (a := Value.none) (by first | rfl | (simp only [firstArgMember]; rfl)) ?_)
  refine wpAny_newObj_type ?_ (by size_fits)
  simp only [raiseNew]
  refine wpAny_bind (wpAny_handled ?_)
  first | rw [show A.in1.handled = none from hh] | rw [hh]
  refine wpAny_bind (wpAny_pure (wpAny_throw ?_))
  refine wpAny_bind (wpAny_isInstance (T := "StopIteration") (b := true) ⟨_, Heap.get?_push_size _ rfl, rfl⟩ isSubtype_stop ?_)
  exact wpAny_pure (hQ _ (((Heap.SameBut.update ..).extBut.push _).push _) ⟨_, Heap.get?_push_of_some _ (Heap.get?_push_of_some _ up)⟩)
theorem call_iterV {t : Addr} {items : Array Value} {Q : Value → Shared → Prop} (hl : IsTup s.heap t items) (h : Q (.ref s.heap.objs.size) { s with heap := s.heap.push { cls := .type "tuple_iterator", data := .fields #[.ref t, .int 0 0] } }) : wpAny (model prog w) A (call (.builtin "iter") [.ref t]) Q E s := by
  refine Calls.call_function_entry (by decide +kernel) (by decide +kernel) PySem.W.kdk_entry_iter (PySem.W.kdk_args_iter _) ?_
  unfold Builtin.«iter»
  refine wpAny_bind (m := someArgs "iter" 1 2 _) (wpAny_of_eq (a := [Value.ref t]) (by first | rfl | kernel_rfl!) ?_)
  show wpAny _ _ (pyIter (.ref t) >>= _) _ _ _
  refine wpAny_bind (iter_tuple hl ?_)
  exact wpAny_pure ⟨_, rfl, h⟩
end
/-- iter(t), t a tuple -/
def rIterT (K : PySem.W.Frag) : List V → Hp → VK → Prop := fun xs H Q => ∃ (t : Addr) (zs : List V), xs = [.ref t] ∧ SqT K H t zs ∧ ∀ it, H it = Option.none → Q (.ref it) (upd H it (ItT t it 0))
theorem call_iterT {X : Cx} : CallR X (.builtin "iter") (rIterT X.K) := by
  intro pins s σ H xs us Q I r h
  obtain ⟨t, zs, rfl, hq, q⟩ := h
  obtain ⟨u, rfl, ru⟩ := vals1 r
  cases ru
  obtain ⟨its, rv, pl, hz⟩ := I.tuple hq
  refine call_iterV pl ?_
  exact ⟨.ref s.heap.objs.size, _, I.laid (t' := s.toks) (fun b u e => Heap.get?_push_of_some _ e) (Nat.le_refl _) (itT_ok ⟨_, Heap.get?_push_size _ rfl, rfl, rfl⟩), rfl, q _ (I.hok.fresh (Nat.le_refl _))⟩
section
variable {X : Cx} {pins : List (Addr × Obj)} {σ : L2.St} {H : Hp} {s : Shared} {n : Nat} {f C a t it q dx : Addr} {fd : FuncData} {ps : List Str} {sp : Sp}
theorem own_run0 {A : Around} {Q : VK} {us : List Value} {vs : List V} {Eo : Value → Shared → Prop} (F : FnOk X.prog X.w X.K X.mg X.base CX0 n f fd ps sp) (hb : Binds X.K fd ps []) (sb : Sub X n A)
    (I : Inv X pins σ H s) (r : Vals vs us) (h : sp vs H Q E0) : wpAny (model X.prog X.w) A (call (.ref f) us) (EP X pins σ Q) Eo s := by
  have z := I.env0
  have e0 : Env0 X.prog X.w X.K X.mg X.base A X.stack s H := ⟨by rw [sb.fr]; exact z.frames, z.mod, z.bs, z.bsz, z.funs, z.frf, z.hok, z.bare⟩
  have ln := F.len _ _ _ _ h
  have bi : BindsTo s fd ⟨us, []⟩ (ps.zip us) := by
    have q := hb s us I.kIn (by rw [List.append_nil, ← r.length]; exact ln)
    rwa [List.append_nil] at q
  refine wpAny_call (codeAny_mono (F.run A X.stack s H ⟨us, []⟩ us vs Q E0 sb.room e0 bi r h) ?_)
  rintro (e | out) s' got
  · exact got.elim
  · match out, got with
    | .ret u, got => exact I.after got
    | .next, got => exact got.elim
    | .brk, got => exact got.elim
    | .cont, got => exact got.elim
theorem hint_own {A : Around} {Eo : Value → Shared → Prop} {Q : Bool → Shared → Prop} {fs : List (Str × V)} (ml : Spm X.K C "__len__" f) (F : FnOk X.prog X.w X.K X.mg X.base CX0 n f fd ps sp) (hb : Binds X.K fd ps []) (sb : Sub X n A.in1)
    (I : Inv X pins σ H s) (ha : H a = some (.ins C dx fs)) (hsp : sp [.ref a] H (fun z H' => (∃ k : Nat, z = .int (k : Int) ∧ k ≤ 5000) ∧ H' = H) E0) (h : ∀ b s', Inv X pins σ H s' → Q b s') : wpAny (model X.prog X.w) A (Builtin.List.listLengthHint (.ref a)) Q Eo s := by
  obtain ⟨ox, od, J⟩ := inst_of I ha
  obtain ⟨mm, hF⟩ := I.fr
  unfold Builtin.List.listLengthHint
  refine wpAny_bind (wpAny_bind (J.type.here ((PySem.W.looks_findIn I.kIn ml.at_).here ?_)))
  refine PySem.W.KFB.if_not rfl ?_
  refine wpAny_bind (wpAny_rule ?_)
  refine wpAny_bind (wpAny_attempt (PySem.W.len_K hF I.ok.mod.kin J ml.at_ ml.fn (wpAny_mono (own_run0 (A := A.in1) (vs := [.ref a]) F hb sb I (.cons rfl .nil) hsp) ?_ fun _ _ z => z)))
  rintro v s' ⟨z, H', I', rz, ⟨k, rfl, k5⟩, rfl⟩
  obtain ⟨t, rfl⟩ := (show ∃ t, v = Value.int k t from rz)
  refine ⟨⟨by omega, by omega⟩, ?_⟩
  have e : Builtin.List.listTooLong ((k : Int).toNat) = false := by
    unfold Builtin.List.listTooLong
    rw [Int.toNat_natCast]
    exact decide_eq_false (show ¬ sizeLine < k from Nat.not_lt.mpr (Nat.le_trans k5 (by decide)))
  show wpAny _ _ (asInt? (Value.int (k : Int) _) >>= _) _ _ _
  refine wpAny_bind (m := asInt? (Value.int (k : Int) _)) (wpAny_pure ?_)
  refine PySem.W.KFB.if_not e ?_
  exact wpAny_pure (h _ _ (I'.tok _))
/-- the walk over a tuple's iterator that fills the list at q -/
theorem tup_loop {A1 : Around} {Rs : Result → Shared → Prop} {xs : List V} (hh : A1.in1.handled = none) (hl : xs.length ≤ 5000) (hqi : q ≠ it) (hti : t ≠ it) (htq : t ≠ q)
    (hdone : ∀ H' s', (∀ b, b ≠ q → b ≠ it → H' b = H b) → H' q = some (.lst xs) → (∃ o, H' it = some o) → Inv X pins σ H' s' → Rs (.ok (.ret .none)) s') :
    ∀ (k i : Nat) (acc : List V) (H0 : Hp) (s : Shared), k = xs.length - i → i ≤ xs.length → acc = xs.take i → Inv X pins σ H0 s → (∀ b, b ≠ q → b ≠ it → H0 b = H b) → H0 q = some (.lst acc) → H0 it = some (ItT t it i) → H t = some (.tup xs) → codeAny (model X.prog X.w) A1 (.builtin "list.extend.loop" ⟨[.ref q, .ref it, .none], []⟩) Rs s := by
  intro k
  induction k with
  | zero =>
    intro i acc H0 s hk hi ea I same hq hit ht
    have e : i = xs.length := by omega
    subst e
    refine codeAny_builtin PySem.F.entry_extend_loop ?_
    rw [Around.under_plainId PySem.F.plain_extend_loop _]
    show wpAny _ A1.in1 (pyNext (.ref it) >>= _) _ _ s
    have ht0 : H0 t = some (.tup xs) := by rw [same _ htq hti]; exact ht
    obtain ⟨its, rv, pl, hz⟩ := I.tuple (SqT.of (K := X.K) ht0)
    refine wpAny_bind (next_tuple_endX hh (itT_get I hit) pl (by rw [List.getElem?_toArray]; exact rv.none_of (List.getElem?_eq_none (Nat.le_refl _))) fun h' eb ex => ?_)
    have I2 : Inv X pins σ (upd H0 it (ItX it)) { s with heap := h' } := I.write (x := it) (e := it) (t' := s.toks) (by rw [hit]; exact True.intro) (.inl rfl) (fun b o nb z => eb b o nb z) ex (itX_ok ex)
    refine wpAny_pure (hdone _ _ (fun b n1 n2 => by rw [upd_ne n2]; exact same b n1 n2) (by rw [upd_ne hqi, hq, ea, List.take_length]) ⟨_, upd_same⟩ I2)
  | succ k ih =>
    intro i acc H0 s hk hi ea I same hq hit ht
    have lt : i < xs.length := by omega
    refine codeAny_builtin PySem.F.entry_extend_loop ?_
    rw [Around.under_plainId PySem.F.plain_extend_loop _]
    show wpAny _ A1.in1 (pyNext (.ref it) >>= _) _ _ s
    have ht0 : H0 t = some (.tup xs) := by rw [same _ htq hti]; exact ht
    obtain ⟨its, rv, pl, hz⟩ := I.tuple (SqT.of (K := X.K) ht0)
    obtain ⟨u, hu, ru⟩ := rv.get (List.getElem?_eq_getElem lt)
    refine wpAny_bind (next_tuple_item (itT_get I hit) pl (x := u) (by rw [List.getElem?_toArray]; exact hu) fun h' st' sb => ?_)
    have I2 : Inv X pins σ (upd H0 it (ItT t it (i + 1))) { s with heap := h' } := I.write (x := it) (e := it) (t' := s.toks) (by rw [hit]; exact True.intro) (.inl rfl) (fun b o nb z => (sb.2 b nb).trans z) (let ⟨o, q, _⟩ := st'; ⟨o, q⟩) (itT_ok st')
    have hq2 : upd H0 it (ItT t it (i + 1)) q = some (.lst acc) := by rw [upd_ne hqi]; exact hq
    have la : acc.length = i := by rw [ea, List.length_take]; omega
    show wpAny _ A1.in1 (updateSeq q (·.push u) >>= _) _ _ _
    obtain ⟨z, its2, m, r2, hl2, e⟩ := I2.lstM hq2
    have big : 5001 ≤ sizeLine := by decide
    refine wpAny_bind (wpAny_updateSeq e rfl (wpAny_pure ⟨plainId_quiet PySem.F.plain_extend_loop _, ?_⟩) (by rw [List.size_toArray]; omega) (by show (its2.toArray.push u).size ≤ sizeLine + 1; rw [Array.size_push, List.size_toArray]; omega))
    refine ih (i + 1) (acc ++ [xs[i]]) _ _ (by omega) lt (by rw [ea, List.take_succ, List.getElem?_eq_getElem lt]; rfl) (I2.lset (its' := its2 ++ [u]) (t' := s.toks) hq2 e (by simp) (r2.append (.cons ru .nil)) (by rw [List.length_append, List.length_singleton]; omega)) (fun b n1 n2 => ?_) upd_same ?_ ht
    · rw [upd_ne n1, upd_ne n2]
      exact same b n1 n2
    · rw [upd_ne (Ne.symm hqi)]
      exact upd_same
variable {fi fl : Addr} {fdI fdL : FuncData} {psI psL : List Str} {spI spL : Sp}
theorem itT_extend {A1 : Around} {Rs : Result → Shared → Prop} {xs : List V} {fs : List (Str × V)} (hh : A1.in1.handled = none) (hl : xs.length ≤ 5000)
    (mi : Spm X.K C "__iter__" fi) (FI : FnOk X.prog X.w X.K X.mg X.base CX0 n fi fdI psI spI) (bI : Binds X.K fdI psI []) (ml : Spm X.K C "__len__" fl) (FL : FnOk X.prog X.w X.K X.mg X.base CX0 n fl fdL psL spL) (bL : Binds X.K fdL psL [])
    (sb : Sub X n A1.in1) (sb2 : Sub X n A1.in1.in1) (I : Inv X pins σ H s) (ha : H a = some (.ins C dx fs)) (hq : H q = some (.lst [])) (ht : H t = some (.tup xs))
    (hI : ∀ Q1 : VK, (∀ it, H it = none → Q1 (.ref it) (upd H it (ItT t it 0))) → spI [.ref a] H Q1 E0)
    (hL : ∀ (H1 : Hp) (Q1 : VK), (∀ b o, H b = some o → H1 b = some o) → Q1 (.int (xs.length : Nat)) H1 → spL [.ref a] H1 Q1 E0)
    (hdone : ∀ H' s', (∀ b o, b ≠ q → H b = some o → H' b = some o) → H' q = some (.lst xs) → Inv X pins σ H' s' → Rs (.ok (.ret .none)) s') :
    wpAny (model X.prog X.w) A1.in1 (Builtin.List.listExtendWith (.ref q) (.ref a) .none)
      (fun fin s' => match fin with | .done f => Rs (.ok f) s' | .again c' => c'.quiet = true ∧ codeAny (model X.prog X.w) A1 c' Rs s') (fun e s' => Rs (.error e) s') s := by
  have hne : q ≠ a := ne_of hq ha (fun z => nomatch z)
  have htq : t ≠ q := ne_of ht hq (fun z => nomatch z)
  obtain ⟨ox, od, J⟩ := inst_of I ha
  obtain ⟨m0, hF⟩ := I.fr
  unfold Builtin.List.listExtendWith
  refine wpAny_bind (J.type.here ?_)
  have h1 : Builtin.List.listSameRef (.ref q) (.ref a) = false := by simp [Builtin.List.listSameRef, hne]
  have h2 : (Value.ref C == Value.type "list") = false := rfl
  have h3 : (Value.ref C == Value.type "tuple") = false := rfl
  simp only [h1, h2, h3, Bool.or_false, Bool.false_eq_true, if_false]
  refine wpAny_bind (PySem.W.owit_iter hF I.ok.mod.kin J mi.at_ mi.fn (wpAny_mono (own_run0 (A := A1.in1) (vs := [.ref a]) FI bI sb I (.cons rfl .nil) (hI (fun v H' => ∃ it, v = .ref it ∧ H it = none ∧ H' = upd H it (ItT t it 0)) fun it nit => ⟨it, rfl, nit, rfl⟩)) ?_ fun _ _ z => z))
  rintro v s1 ⟨z, H1, I1, rz, it, rfl, nit, rfl⟩
  cases (show v = Value.ref it from rz)
  have hit : upd H it (ItT t it 0) it = some (ItT t it 0) := upd_same
  have S1 : ∀ b o, H b = some o → upd H it (ItT t it 0) b = some o := fun b o e => by rw [upd_ne (ne_of_none e nit)]; exact e
  have hqi : q ≠ it := ne_of_none hq nit
  have hti : t ≠ it := ne_of_none ht nit
  unfold PySem.W.OwitIt
  refine wpAny_specialOf (name := Str.ofString "__next__") (itT_get I1 hit).typeIs slot_tupleiter_next.lookup ?_
  refine wpAny_bind (wpAny_holding (hint_own ml FL bL sb2 I1 (S1 _ _ ha) (hL _ _ S1 ⟨⟨_, rfl, hl⟩, rfl⟩) fun b s2 I2 => ?_))
  have go : ∀ s3, Inv X pins σ (upd H it (ItT t it 0)) s3 → codeAny (model X.prog X.w) A1 (.builtin "list.extend.loop" ⟨[.ref q, .ref it, .none], []⟩) Rs s3 := fun s3 I3 =>
    tup_loop (H := upd H it (ItT t it 0)) hh hl hqi hti htq (fun H' s' k1 k2 k3 I' => hdone H' s' (fun b o nb e => by
      have ni : b ≠ it := ne_of_none e nit
      rw [k1 b nb ni]
      exact S1 _ _ e) k2 I') _ 0 [] _ _ rfl (Nat.zero_le _) rfl I3 (fun _ _ _ => rfl) (S1 _ _ hq) hit (S1 _ _ ht)
  obtain ⟨z, its, k, r3, hl3, e3⟩ := I2.lstM (S1 _ _ hq)
  cases r3
  refine wpAny_ite_split (fun _ => ?_) (fun _ => wpAny_pure ⟨plainId_quiet PySem.F.plain_extend_loop _, go _ I2⟩)
  refine wpAny_bind (wpAny_rule ?_)
  refine wpAny_bind ?_
  show wpAny _ _ (updateSeq q (·.push .none) >>= fun _ => updateSeq q (·.pop)) _ _ _
  refine wpAny_bind (wpAny_updateSeq e3 rfl ?_)
  have J2 := I2.lset (f := (·.push Value.none)) (its' := [Value.none]) (ys := [.non]) (t' := s2.toks) (S1 _ _ hq) e3 (by simp) (.cons rfl .nil) (by rw [List.length_singleton, sizeLine_eq]; decide)
  obtain ⟨z4, its4, k4, r4, hl4, e4⟩ := J2.lstM upd_same
  obtain ⟨u4, rfl, ru4⟩ := r4.one
  refine wpAny_updateSeq e4 rfl ?_ (by show 1 ≤ sizeLine; rw [sizeLine_eq]; decide) (by show 0 ≤ sizeLine + 1; exact Nat.zero_le _)
  refine wpAny_pure ⟨plainId_quiet PySem.F.plain_extend_loop _, go _ ?_⟩
  have J3 := J2.lset (f := (·.pop)) (its := [u4]) (its' := []) (ys := []) (t' := s2.toks) upd_same e4 (by rfl) .nil (Nat.zero_le _)
  rw [upd_upd] at J3
  have hH : upd (upd H it (ItT t it 0)) q (.lst []) = upd H it (ItT t it 0) := by
    funext b
    by_cases hb : b = q
    · rw [hb, upd_same, S1 _ _ hq]
    · rw [upd_ne hb]
  rw [hH] at J3
  exact J3
end
/-- list(o), o of the class at C -/
def rListIt (C : Addr) (spI spL : Sp) : List V → Hp → VK → Prop := fun vs H Q => ∃ (a dx t : Addr) (fs : List (Str × V)) (xs : List V), vs = [.ref a] ∧ H a = some (.ins C dx fs) ∧ H t = some (.tup xs) ∧ xs.length ≤ 5000 ∧
  (∀ (H1 : Hp) (Q1 : VK), (∀ b o, H b = some o → H1 b = some o) → (∀ it, H1 it = none → Q1 (.ref it) (upd H1 it (ItT t it 0))) → spI [.ref a] H1 Q1 E0) ∧
  (∀ (H1 : Hp) (Q1 : VK), (∀ b o, H b = some o → H1 b = some o) → Q1 (.int (xs.length : Nat)) H1 → spL [.ref a] H1 Q1 E0) ∧
  ∀ q H', H q = none → (q == sysModules) = false → (∀ b o, H b = some o → H' b = some o) → H' q = some (.lst xs) → Q (.ref q) H'
theorem call_listIt {X : Cx} {n : Nat} {C fi fl : Addr} {fdI fdL : FuncData} {psI psL : List Str} {spI spL : Sp} (hc : X.calm = true) (mi : Spm X.K C "__iter__" fi) (FI : FnOk X.prog X.w X.K X.mg X.base CX0 n fi fdI psI spI) (bI : Binds X.K fdI psI []) (ml : Spm X.K C "__len__" fl) (FL : FnOk X.prog X.w X.K X.mg X.base CX0 n fl fdL psL spL) (bL : Binds X.K fdL psL [])
    (hr : Room (n + 3) X.A) : CallR X (.type "list") (rListIt C spI spL) := by
  intro pins s σ H xs us Q I rv h
  obtain ⟨a, dx, t, fs, zs, rfl, ha, ht, hl, hI, hL, kk⟩ := h
  obtain ⟨u, rfl, ru⟩ := rv.one
  cases ru
  have sb2 : Sub X n X.A.in1.in1.in1 := (Sub.in1 (Sub.in1 (Sub.in1 (⟨hr, rfl⟩ : Sub X (n + 3) X.A))))
  have sb : Sub X n X.A.in1.in1 := ⟨Room.mono (Sub.in1 (Sub.in1 (⟨hr, rfl⟩ : Sub X (n + 3) X.A))).room (by omega), rfl⟩
  refine callType_codes (Q₁ := fun obj s₁ => obj = .ref s.heap.objs.size ∧ s₁ = { s with heap := s.heap.push { cls := .type "list", data := .seq #[] } }) PySem.F.called_list (PySem.F.typeCall_list_1 _) PySem.F.entry_list_init
    (code_list_new _ ⟨rfl, rfl⟩) fun obj s₁ h₁ => ?_
  obtain ⟨rfl, rfl⟩ := h₁
  have hS : (s.heap.push { cls := .type "list", data := .seq #[] }).get? s.heap.objs.size = some { cls := .type "list", data := .seq #[] } := Heap.get?_push_size _ rfl
  refine ⟨⟨_, hS, rfl⟩, PySem.F.args_list_init_2 _ _, ?_⟩
  have fr : H s.heap.objs.size = none := I.hok.fresh (Nat.le_refl _)
  have I1 : Inv X pins σ (upd H s.heap.objs.size (.lst [])) { s with heap := s.heap.push { cls := .type "list", data := .seq #[] } } := I.lnew (its := []) (t' := s.toks) .nil (Nat.zero_le _)
  show wpAny _ _ (do let old ← Builtin.List.listItems (.ref s.heap.objs.size); Builtin.List.listUpdate (.ref s.heap.objs.size) (fun _ => #[]); letGo old.toList.reverse; Builtin.List.listExtendWith (.ref s.heap.objs.size) (.ref a) .none) _ _ _
  refine wpAny_bind ?_
  unfold Builtin.List.listItems
  refine wpAny_bind (wpAny_seqItems hS rfl (wpAny_pure ?_))
  show wpAny _ _ (updateSeq s.heap.objs.size (fun _ => #[]) >>= fun _ => letGo (#[] : Array Value).toList.reverse >>= fun _ => Builtin.List.listExtendWith (.ref s.heap.objs.size) (.ref a) .none) _ _ _
  refine wpAny_bind (wpAny_updateSeq hS rfl ?_)
  have I2 := I1.lset (f := fun _ => #[]) (its := []) (its' := []) (ys := []) (t' := s.toks) upd_same hS rfl .nil (Nat.zero_le _)
  rw [upd_upd] at I2
  refine wpAny_bind (wpAny_letGo ?_)
  have S0 : ∀ b o, H b = some o → upd H s.heap.objs.size (.lst []) b = some o := fun b o e => by rw [upd_ne (ne_of_none e fr)]; exact e
  exact itT_extend (A1 := X.A.in1) (Rs := wants (fun r s₂ => r = .none ∧ EP X pins σ Q (.ref s.heap.objs.size) s₂) X.xe) (I.ok.hd hc) hl mi FI bI ml FL bL sb sb2 I2 (S0 _ _ ha) upd_same (S0 _ _ ht)
    (fun Q1 h1 => hI _ Q1 S0 h1) (fun H1 Q1 s1 h1 => hL H1 Q1 (fun b o e => s1 b o (S0 b o e)) h1)
    fun H' s' k1 k2 I' => ⟨rfl, .ref s.heap.objs.size, H', I', rfl, kk _ _ fr (beq_eq_false_iff_ne.mpr (Ne.symm (Nat.ne_of_lt I.big))) (fun b o e => k1 b o (ne_of_none e fr) (S0 b o e)) k2⟩
end Sm

set_option Elab.async false
set_option linter.all false
set_option maxRecDepth 100000
set_option maxHeartbeats 4000000
namespace Sm
open PySem PySem.Spec PyProof.Rows L2
section
variable {X : Cx} {CX : CXT} {n k i : Nat} {f C : Addr} {fd : FuncData} {ps : List Str} {sp : Sp} {E : XK} {x : Str} {e : Expr} {es : List Expr} {t : TA} {p pos : Pos} {ds : List Value} {dvs : List V}
/-- str(o), o of a class with its own __str__ -/
def rStrO (C : Addr) (sp : Sp) (E : XK) : List V → Hp → VK → Prop := fun xs H Q => ∃ (a dx : Addr) (fs : List (Str × V)), xs = [V.ref a] ∧ H a = some (.ins C dx fs) ∧ sp [.ref a] H (fun z H' => ∃ y : Str, z = .str y ∧ Q (.str y) H') E
theorem call_strO (m : Spm X.K C "__str__" f) (F : FnOk X.prog X.w X.K X.mg X.base CX n f fd ps sp) (hb : Binds X.K fd ps []) (hr : Room (n + 2) X.A) (hx : Passes CX X E) : CallR X (.type "str") (rStrO C sp E) := by
  intro pins s σ H xs us Q I r h
  obtain ⟨a, dx, fs, rfl, ha, q⟩ := h
  obtain ⟨u, rfl, ru⟩ := vals1 r
  cases (show u = Value.ref a from ru)
  obtain ⟨ox, od, J⟩ := inst_of I ha
  refine PySem.W.kso_call hr.in1.in1.units0 I.kIn J m.at_ m.fn (wpAny_mono (own_run (A := X.A.in1.in1) (vs := [.ref a]) F hb hx ⟨hr.in1.in1, rfl⟩ I (.cons rfl .nil) q) ?_ fun _ _ z => z)
  rintro v s' ⟨z, H', I', rz, y, rfl, q⟩
  obtain ⟨t, rfl⟩ := (show ∃ t, v = Value.str y t from rz)
  exact ⟨.str y, H', I', ⟨t, rfl⟩, q⟩
/-- x == y, x of the class, y of a built-in kind that is none of it -/
def rEqOQ (K : PySem.W.Frag) (C : Addr) (sp : Sp) (E : XK) : R2 := fun x y H Q => ∃ (a dx : Addr) (fs : List (Str × V)) (d : PyData), x = .ref a ∧ H a = some (.ins C dx fs) ∧ Dq K H y d ∧ PySem.W.subIn K (.type (tyN d)) (.ref C) = some false ∧ sp [x, y] H Q E
theorem op_eqOQ (m : Spm X.K C "__eq__" f) (F : FnOk X.prog X.w X.K X.mg X.base CX n f fd ps sp) (hb : Binds X.K fd ps []) (hr : Room n X.A) (hx : Passes CX X E) : OpR X (compareOp .Eq) (rEqOQ X.K C sp E) := by
  intro pins s σ H x y v u Q I rx ry h
  obtain ⟨a, dx, fs, d, rfl, ha, hy, hs, q⟩ := h
  cases (show v = Value.ref a from rx)
  obtain ⟨ox, od, J⟩ := inst_of I ha
  obtain ⟨P, Z, p, _⟩ := kit_of I ry hy.ty
  obtain ⟨mm, hF⟩ := I.fr
  show wpAny (model X.prog X.w) X.A (richCompare .Eq (.ref a) u) (EP X pins σ Q) X.xe s
  refine PySem.W.cmp_K (op := .Eq) (tb := .type (tyN d)) hr.units0 hF I.ok.mod.kin J (Z.ty _ _ I.kIn p) (by unfold PySem.W.notFirst; rw [hs, Bool.or_eq_true]; exact Or.inr rfl) m.at_ m.fn (wpAny_mono (own_run (vs := [.ref a, y]) F hb hx ⟨hr, rfl⟩ I (.cons rfl (.cons ry .nil)) q) ?_ fun _ _ z => z)
  rintro v s' ⟨z, H', I', rz, q⟩
  exact SlX.cmpback rz ⟨z, H', I', rz, q⟩
/-- cls(..), cls a local name that holds the class -/
def tMakeV (i : Nat) (C : Addr) (sp : Sp) (dvs : List V) (E : XK) (t : TA) : TE := fun σ H Q => σ[i]? = some (some (.ref C)) ∧ tMake C sp dvs E t σ H Q
theorem pe_makeV (M : Mk X.K C f) (F : FnOk X.prog X.w X.K X.mg X.base CX k f fd ps sp) (hr : Room (k + 1) X.A) (hN : X.N[i]? = some x) (hv : Vis X.env.scope x) (hb : Binds X.K fd ps ds) (hd : Vals dvs ds) (hx : Passes CX X E)
    (ha : PA X (e :: es) t) (hdb : (x == ("__debug__" : Str)) = false := by decide) (hcd : (x == ("__classdict__" : Str)) = false := by decide) (he : starEach (e :: es) X.env = (false, eval e X.env) :: starEach es X.env := by rfl) (hpl : (backTo pos (starEach es X.env)).any (·.1) = false := by rfl) :
    PE X (.Call (.Name x p) (e :: es) [] pos) (tMakeV i C sp dvs E t) := by
  refine ⟨fun pins s σ H Q I h => ?_⟩
  obtain ⟨hs, h⟩ := h
  refine wpAny_Call_Name_kw (thn ((pe_var (pos := p) (i := i) hN hv hdb hcd).run pins s σ H (fun v H1 => v = .ref C ∧ H1 = H) I ⟨.ref C, hs, rfl, rfl⟩) fun u s1 ⟨v, H1, I1, r1, ev, eH⟩ => ?_)
  subst ev
  rw [eH] at I1
  cases r1
  refine PySem.W.callWith_K (h₀ := X.base) I1.ok.mod.kin M.kp (thn (ha.run pos pins s1 σ H _ I1 h) fun us s2 ⟨vs, H2, I2, r, q⟩ => ⟨I2.kIn, ?_⟩) he hpl
  exact run_make M F hr hb hd hx I2 r q
end
end Sm

set_option Elab.async false
set_option linter.all false
set_option maxRecDepth 100000
set_option maxHeartbeats 4000000
namespace HT
open PySem PySem.Spec PyProof.Rows
section
variable {prog : Program} {w : World} {A : Around} {E : Value → Shared → Prop} {s : Shared}
/-! ### t[::-1] of a tuple -/
theorem sliceApplied_rev {sl : Addr} {n : Nat} {t : Tok} {Q : Int × Int × Nat → Shared → Prop} (hs : s.heap.IsSliceOf sl .none .none (.int (-1) t))
    (h : Q ((n : Int) - 1, -1, n) s) : wpAny (model prog w) A (Builtin.Slice.sliceApplied (.ref sl) (pure (n : Int))) Q E s := by
  obtain ⟨os, hos, hcs, hds⟩ := id hs
  unfold Builtin.Slice.sliceApplied Builtin.Slice.sliceFields
  refine wpAny_bind (wpAny_bind (wpAny_field hos hds (x := .none) rfl (wpAny_bind (wpAny_field hos hds (x := .none) rfl (wpAny_bind (wpAny_field hos hds (x := .int (-1) t) rfl (wpAny_pure ?_)))))))
  refine wpAny_bind (slicePart_int ?_)
  show wpAny _ _ (if ((-1 : Int) == 0) = true then _ else _) _ _ s
  rw [if_neg (by decide)]
  refine wpAny_bind (slicePart_none (wpAny_bind (slicePart_none (wpAny_bind (wpAny_pure ?_)))))
  show wpAny _ _ (match Builtin.Slice.sliceAdjust none none (-1) (n : Int) with | (lo, hi) => pure (lo, (-1 : Int), Builtin.Slice.slicePlaces lo hi (-1))) _ _ s
  have e1 : Builtin.Slice.sliceAdjust none none (-1) (n : Int) = ((n : Int) - 1, -1) := by
    unfold Builtin.Slice.sliceAdjust
    rfl
  rw [e1]
  have e2 : Builtin.Slice.slicePlaces ((n : Int) - 1) (-1) (-1) = n := by
    unfold Builtin.Slice.slicePlaces
    rw [if_neg (by decide), show (-(-1) : Int) = 1 from rfl, Int.ediv_one]
    split <;> omega
  show wpAny _ _ (pure ((n : Int) - 1, (-1 : Int), Builtin.Slice.slicePlaces ((n : Int) - 1) (-1) (-1))) _ _ s
  rw [e2]
  exact wpAny_pure h
theorem pick_rev (xs : Array Value) : ((List.range xs.size).filterMap fun (m : Nat) => xs[(((xs.size : Nat) : Int) - 1 + (m : Int) * (-1)).toNat]?).toArray = xs.toList.reverse.toArray := by
  congr 1
  refine List.ext_getElem? fun i => ?_
  have e : ((List.range xs.size).filterMap fun (m : Nat) => xs[(((xs.size : Nat) : Int) - 1 + (m : Int) * (-1)).toNat]?) = (List.range xs.size).map fun m => xs.getD (xs.size - 1 - m) .none := by
    have key : ∀ l : List Nat, (∀ m ∈ l, m < xs.size) → (l.filterMap fun (m : Nat) => xs[(((xs.size : Nat) : Int) - 1 + (m : Int) * (-1)).toNat]?) = l.map fun m => xs.getD (xs.size - 1 - m) .none := by
      intro l
      induction l with
      | nil => intro _; rfl
      | cons m l ih =>
        intro h
        have hm := h m (List.mem_cons_self ..)
        have q : (((xs.size : Nat) : Int) - 1 + (m : Int) * (-1)).toNat = xs.size - 1 - m := by omega
        have l' : xs.size - 1 - m < xs.size := by omega
        rw [List.filterMap_cons, q, List.map_cons, ← ih fun z hz => h z (List.mem_cons_of_mem _ hz)]
        simp [l']
    exact key _ fun m hm => List.mem_range.mp hm
  rw [e, List.getElem?_map]
  by_cases h : i < xs.size
  · rw [List.getElem?_range h, List.getElem?_reverse (by simpa using h)]
    have l : xs.size - 1 - i < xs.size := by omega
    simp [l]
  · rw [List.getElem?_eq_none (by rw [List.length_range]; omega), List.getElem?_eq_none (by simp; omega)]
    rfl
theorem getItem_tuple_rev {t sl : Addr} {items : Array Value} {k : Tok} {Q : Value → Shared → Prop} (ht : IsTup s.heap t items) (hs : s.heap.IsSliceOf sl .none .none (.int (-1) k))
    (h : Q (.ref s.heap.objs.size) { s with heap := s.heap.push { cls := .type "tuple", data := .seq items.toList.reverse.toArray } })
    (hsz : items.size ≤ sizeLine) : wpAny (model prog w) A (getItem (.ref t) (.ref sl)) Q E s := by
  have htake : sizeOk (.seq items.toList.reverse.toArray) := by
    show items.toList.reverse.toArray.size ≤ sizeLine
    rw [List.size_toArray, List.length_reverse, Array.length_toList]
    omega
  obtain ⟨os, hos, hcs, hds⟩ := id hs
  have hTs : s.TypeIs (.ref sl) "slice" := ⟨os, hos, hcs⟩
  unfold getItem
  try with_reducible refine wpAny_holding ?_
  first | refine wpAny_bind (wpAny_pure ?_) | skip
  refine wpAny_bind (wpAny_sequenceKey ht.typeIs (by decide) ?_)
  refine wpAny_bind (wpAny_callSpecial?_slot (name := Str.ofString "__getitem__") ht.typeIs PyProof.Rows.slot_tuple_getitem
    (wpAny_call_entry PyProof.Rows.slot_tuple_getitem ht.typeIs entry_tuple_getitem ?_ (args_tuple_getitem _ _)))
  show wpAny _ _ (Builtin.Tuple.tupleItemsOf (.ref t) >>= _) _ _ s
  refine wpAny_bind (tupleItemsOf_ ht ?_)
  refine wpAny_bind (wpAny_typeOf hTs ?_)
  rw [if_pos (by decide)]
  refine wpAny_bind (sliceApplied_rev hs ?_)
  have hno : ¬ ((((items.size : Nat) : Int) - 1 == 0 && (-1 : Int) == 1 && items.size == items.size) = true) := by simp
  show wpAny _ _ (if (((items.size : Nat) : Int) - 1 == 0 && (-1 : Int) == 1 && items.size == items.size) = true then _ else _) _ _ s
  rw [if_neg hno, pick_rev]
  first
    | exact wpAny_bind (m := Builtin.Tuple.tupleExact _) (wpAny_newObj_type (wpAny_pure ⟨_, rfl, wpAny_pure h⟩) htake)
    | exact wpAny_bind (m := Builtin.Tuple.tupleExact _) (wpAny_newObj_type (wpAny_bind (wpAny_pure (wpAny_pure ⟨_, rfl, wpAny_pure h⟩))) htake)
    | exact wpAny_bind (wpAny_bind (m := Builtin.Tuple.tupleExact _) (wpAny_newObj_type (wpAny_pure (wpAny_pure ⟨_, rfl, wpAny_pure h⟩)) htake))
    | exact wpAny_bind (wpAny_bind (m := Builtin.Tuple.tupleExact _) (wpAny_newObj_type (wpAny_pure ⟨_, rfl, wpAny_pure h⟩) htake))
end
end HT
namespace Sm
open PySem PySem.Spec PyProof.Rows L2
section
variable {X : Cx}
def tRevT (K : PySem.W.Frag) (te : TE) : TE := fun σ H Q => te σ H fun x H1 => ∃ a xs, x = .ref a ∧ SqT K H1 a xs ∧ ∀ p, H1 p = none → Q (.ref p) (upd H1 p (.tup xs.reverse))
theorem pe_revT {e : Expr} {te : TE} {k : Nat} {p1 p2 p3 pos : Pos} (he : PE X e te) : PE X (.Subscript e (.Slice none none (some (.UnaryOp .USub (.Constant (.int 1) k p1) p2)) p3) pos) (tRevT X.K te) := by
  refine ⟨fun pins s σ H Q I h => ?_⟩
  refine Subscript_ (thn (he.run pins s σ H _ I h) fun v s1 ⟨x, H1, I1, r1, q1⟩ => ?_)
  obtain ⟨a, xs, ex, hx, q⟩ := q1
  subst ex
  cases r1
  have hst : PO X (some (.UnaryOp .USub (.Constant (.int 1) k p1) p2)) (tPart (tUn (rU fun i => .int (-i)) (tC (.int 1)))) := po_some (pe_un un_neg pe_int)
  refine wpAny_Slice (thn (po_none.run pins s1 σ H1 (fun o H2 => o = none ∧ H2 = H1) I1 ⟨rfl, rfl⟩) fun vl s2 ⟨l, H2, I2, pl, el, e2⟩ => ?_)
  subst el e2
  refine thn (po_none.run pins s2 σ H2 (fun o H3 => o = none ∧ H3 = H2) I2 ⟨rfl, rfl⟩) fun vu s3 ⟨u, H3, I3, pu, eu, e3⟩ => ?_
  subst eu e3
  refine thn (hst.run pins s3 σ H3 (fun o H4 => o = some (-1) ∧ H4 = H3) I3 ⟨1, rfl, -1, rfl, rfl, rfl⟩) fun vs s4 ⟨o, H4, I4, ps, eo, e4⟩ => ?_
  subst eo e4
  cases pl
  cases pu
  cases ps with
  | int _ tk =>
  have I5 : Inv X pins σ H4 { s4 with heap := s4.heap.push { cls := .type "slice", data := .fields #[.none, .none, .int (-1) tk] } } := I4.kept (t' := s4.toks) fun b ob q => Heap.get?_push_of_some _ q
  obtain ⟨its, r, ht, hz⟩ := I5.tuple hx
  have hlen := r.length
  have ht : IsTup (s4.heap.push { cls := .type "slice", data := .fields #[.none, .none, .int (-1) tk] }) a its.toArray := ht
  show wpAny (model X.prog X.w) X.A (subscriptTail e (.Slice none none (some (.UnaryOp .USub (.Constant (.int 1) k p1) p2)) p3) (.ref a) (.ref s4.heap.objs.size)) (EP X pins σ Q) X.xe { s4 with heap := s4.heap.push { cls := .type "slice", data := .fields #[.none, .none, .int (-1) tk] } }
  refine tail_any (ops := [.ref a, .ref s4.heap.objs.size]) ht.typeIs (PyProof.Rows.slot_tuple_getitem.lookup) ?_ (by with_unfolding_all rfl)
  refine HT.getItem_tuple_rev ht (Heap.IsSliceOf.new _ .none .none (.int (-1) tk)) ?_ (by rw [List.size_toArray]; omega)
  refine ⟨.ref _, _, I5.laid (t' := s4.toks) (o := .tup xs.reverse) (fun b ob q => Heap.get?_push_of_some _ q) (Nat.le_refl _) ?_, rfl, q _ (I5.hok.fresh (Nat.le_refl _))⟩
  exact ⟨by rw [List.length_reverse]; exact hz, _, r.reverse, ⟨_, Heap.get?_push_size _ rfl, rfl, _, rfl⟩⟩
end
end Sm

set_option Elab.async false
set_option linter.all false
namespace L2
open PySem PySem.Spec PyProof.Rows
/-! == and != of data without dicts, whatever the signs of its texts -/
def rEqP (K : PySem.W.Frag) : R2 := fun x y H Q => ∃ d e, Dp K H x d ∧ Dp K H y e ∧ d.plain = true ∧ e.plain = true ∧ d.depth ≤ 60 ∧ Q (.bl (PyData.eqv d e)) H
def rNeP (K : PySem.W.Frag) : R2 := fun x y H Q => ∃ d e, Dp K H x d ∧ Dp K H y e ∧ d.plain = true ∧ e.plain = true ∧ d.depth ≤ 60 ∧ Q (.bl (!PyData.eqv d e)) H
section
variable {X : Cx}
theorem op_eqP (hu : X.A.units + 64 < cLine) : OpR X (compareOp .Eq) (rEqP X.K) := by
  intro pins s σ H x y v u Q I rx ry h
  obtain ⟨d, e, hd, he, sd, se, dd, q⟩ := h
  obtain ⟨as, r1⟩ := Dp.reads I d x v hd rx
  obtain ⟨bs, r2⟩ := Dp.reads I e y u he ry
  exact SeqAt.eq_plain r1 r2 sd se (by omega) ⟨.bl _, H, I, rfl, q⟩
theorem op_neP (hu : X.A.units + 64 < cLine) : OpR X (compareOp .NotEq) (rNeP X.K) := by
  intro pins s σ H x y v u Q I rx ry h
  obtain ⟨d, e, hd, he, sd, se, dd, q⟩ := h
  obtain ⟨as, r1⟩ := Dp.reads I d x v hd rx
  obtain ⟨bs, r2⟩ := Dp.reads I e y u he ry
  exact SeqAt.ne_plain r1 r2 sd se (by omega) ⟨.bl _, H, I, rfl, q⟩
end
end L2

set_option Elab.async false
set_option linter.all false
set_option maxRecDepth 100000
set_option maxHeartbeats 4000000
namespace PySem.SeqAt
open AutoSeq1 (wpAny_loadPart')
open MeetsSeq
theorem dict_no_str (l : Addr) (es : Array DictEntry) (n : Nat) (dd : Option Addr) (sl : Array (Option Value)) (b : Str) (u : Tok) :
    Meets (Builtin.«dict.__eq__» ⟨[.ref l, .str b u], []⟩) (fun _ R s => s.heap.get? l = some { cls := .type "dict", dict := dd, data := .dict es n, slots := sl } ∧ R (.ok (.ret .notImplemented)) s) :=
  .of_wp fun prog w A R s h => by
    obtain ⟨hp, g, d, tk, os⟩ := s
    obtain ⟨hl, h⟩ := h
    have f1 := F.sub_str_dict
    wp_walk using wpAny_loadPart' hl
    exact ⟨_, rfl, h⟩
theorem str_no_dict (b : Str) (u : Tok) (l : Addr) (es : Array DictEntry) (n : Nat) (dd : Option Addr) (sl : Array (Option Value)) :
    Meets (Builtin.«str.__eq__» ⟨[.str b u, .ref l], []⟩) (fun _ R s => s.heap.get? l = some { cls := .type "dict", dict := dd, data := .dict es n, slots := sl } ∧ R (.ok (.ret .notImplemented)) s) :=
  .of_wp fun prog w A R s h => by
    obtain ⟨hp, g, d, tk, os⟩ := s
    obtain ⟨hl, h⟩ := h
    wp_walk using wpAny_loadPart' hl, wpAny_load hl
    exact ⟨_, rfl, h⟩
/-- a dict is no text -/
theorem rc_dict_str {A : Around} {s : Shared} {l : Addr} {o : Obj} {es : Array DictEntry} {n : Nat} (b : Str) (u : Tok) (ho : s.heap.get? l = some o) (hc : o.cls = .type "dict") (hd : o.data = .dict es n) (hu : A.units < cLine) : RcAt A s (.ref l) (.str b u) false := fun prog w E Q h => by
  obtain ⟨cls, dd, data, sl⟩ := o
  simp only at hc hd
  subst hc hd
  exact rc_eq_decline_or (k := false) ⟨_, ho, rfl⟩ (typeIs_str s b u) (by decide) F.sub_str_dict F.slot_dict_eq F.slot_str_eq_refl
    (fun _ hq => call_meets F.slot_dict_eq ⟨_, ho, rfl⟩ F.entry_dict_eq (F.args_dict_eq_2 _ _) (dict_no_str l es n dd sl b u) ⟨ho, hq⟩)
    (fun _ hq => call_meets F.slot_str_eq_refl (typeIs_str s b u) F.entry_str_eq (F.args_str_eq_2 _ _) (str_no_dict b u l es n dd sl) ⟨ho, hq⟩)
    (fun _ hq => wpAny_of_eq (rfl : isSame (.ref l) (.str b u) = pure false) hq) (.inr hu) h
end PySem.SeqAt
namespace Sm
open PySem PySem.Spec PyProof.Rows L2
def strD (d : PyData) (x : Str) : Bool := match d with | .str y => decide (V.str y = V.str x) | _ => false
/-- a value of any kind == a text -/
def rEqQ (K : PySem.W.Frag) : R2 := fun x y H Q => ∃ (d : PyData) (t : Str), Dq K H x d ∧ y = .str t ∧ Q (.bl (strD d t)) H
theorem op_eqQ {X : Cx} (hu : X.A.units + 64 < cLine) : OpR X (compareOp .Eq) (rEqQ X.K) := by
  intro pins s σ H x y v u Q I rx ry h
  obtain ⟨d, t, hd, rfl, q⟩ := h
  cases hd with
  | non => exact op_eq pins s σ H _ _ v u Q I rx ry ⟨rfl, q⟩
  | bl b => exact op_eq pins s σ H _ _ v u Q I rx ry ⟨rfl, q⟩
  | int i => exact op_eq pins s σ H _ _ v u Q I rx ry ⟨rfl, q⟩
  | str z => exact op_eq pins s σ H _ _ v u Q I rx ry ⟨rfl, q⟩
  | lst e1 e2 e3 =>
    cases rx
    obtain ⟨k, rfl⟩ := ry
    obtain ⟨its, rv, hl, _⟩ := I.list (SqL.of e1)
    exact SeqAt.RcAt.list_str t k hl.isList (by omega) _ _ _ _ ⟨.bl _, H, I, rfl, q⟩
  | tup e1 e2 =>
    cases rx
    obtain ⟨k, rfl⟩ := ry
    obtain ⟨its, rv, hl, _⟩ := I.tuple (SqT.of e1)
    exact SeqAt.RcAt.tuple_str t k hl (by omega) _ _ _ _ ⟨.bl _, H, I, rfl, q⟩
  | dic kvs e1 =>
    cases rx
    obtain ⟨k, rfl⟩ := ry
    obtain ⟨_, hd, vs, kv, o, es, ep, h1, h2, h3, _⟩ := dk_of I.hok e1
    exact SeqAt.rc_dict_str t k h1 h2.1 h3 (by omega) _ _ _ _ ⟨.bl _, H, I, rfl, q⟩
end Sm

set_option Elab.async false
set_option linter.all false
set_option maxRecDepth 100000
set_option maxHeartbeats 4000000
namespace Sm
open PySem PySem.Spec PyProof.Rows L2 LamX
/-! ### the law's own call where the law makes lambdas: its table of code objects is tracked too -/
theorem law_atT {P : Program} {w : World} {K : PySem.W.Frag} {mg mb : Str → Option Value} {k : Nat} {fa a c Pt : Addr} {fd : FuncData} {x : Str} {sp : Sp} {s₁ : Shared} {vs : List Value} {ns : List Int}
    (inK : K.In s₁.heap) (names : s₁.heap.Ns mainGlobals mg) (bnames : s₁.heap.Ns builtinsNs mb) (boots : ∀ x : Str, x ≠ "__name__" → mb x = bootBuiltins x) (unlim : s₁.heap.NoLimit) (nogen : s₁.gens = #[])
    (empty : s₁.heap.get? Pt = some (PySem.W.tabObj #[])) (loose : K.lookup Pt = none) (head : PySem.W.codeHdIn K c Pt = true)
    (mods : ∃ (bm : Addr) (ob : Obj), mg "__builtins__" = some (.ref bm) ∧ bm ≠ builtinsNs ∧ s₁.heap.get? bm = some ob ∧ ob.cls = .type "module" ∧ ob.dict = some builtinsNs ∧ ob.data = .plain)
    (script : s₁.heap.get? a = some { cls := .type "list", data := .seq vs.toArray }) (whole : IntsAre vs ns) (few : ns.length ≤ sizeLine) (room : Room k callerA)
    (each : ∀ base : Heap, K.In base → base.Ns mainGlobals mg → TabB base mg c Pt → FnG P w K mg base k fa fd [x] sp) (binds : ∀ (s : Shared) (u : Value), BindsTo s fd ⟨[u], []⟩ [(x, u)])
    (asked : ∀ H : Hp, H Pt = some (.tbl #[]) → SqL K H a (ns.map V.int) → sp [.ref a] H (fun v _ => v = .bl true) E0) :
    codeAny (model P w) callerA (.call (.ref fa) ⟨[.ref a], []⟩) (fun r s' => r = .ok (.ret (.bool true)) ∧ OldK s₁.heap s'.heap ∧ s'.os = s₁.os ∧ AllBare s'.gens) s₁ := by
  have ivs := vals_ints whole
  have apart : a ≠ Pt := fun e => by
    rw [e, empty] at script
    have z : Data.fields #[] = Data.seq vs.toArray _ := congrArg Obj.data (Option.some.inj script)
    cases z
  -- what is tracked: the table, and the script if the module does not hold it itself
  obtain ⟨H, table, seq, ok, only, free⟩ : ∃ H : Hp, H Pt = some (.tbl #[]) ∧ SqL K H a (ns.map V.int) ∧ HOk P w H s₁.heap ∧ (∀ b u, H b = some u → (b = a ∧ u = .frz { cls := .type "list", data := .seq vs.toArray } (.lst (ns.map V.int))) ∨ (b = Pt ∧ u = .tbl #[])) ∧ ∀ b u, H b = some u → K.lookup b = none := by
    cases look : K.lookup a with
    | some o =>
      have same := inK a o look
      rw [script] at same
      injection same with same
      subst same
      have one : ∀ b u, (fun b => if b = Pt then some (HO.tbl #[]) else none : Hp) b = some u → b = Pt ∧ u = .tbl #[] := by
        intro b u z
        by_cases e : b = Pt
        · exact ⟨e, (Option.some.inj ((if_pos e).symm.trans z)).symm⟩
        · exact nomatch (if_neg e).symm.trans z
      refine ⟨fun b => if b = Pt then some (.tbl #[]) else none, if_pos rfl, .inr ⟨_, vs.toArray, _, look, rfl, rfl, rfl, ?_, ?_⟩, fun b u z => ?_, fun b u z => .inr (one b u z), fun b u z => ?_⟩
      · rw [List.size_toArray, whole.length]
        exact few
      · simpa using ivs
      · obtain ⟨rfl, rfl⟩ := one b u z
        exact empty
      · rw [(one b u z).1]
        exact loose
    | none =>
      have two : ∀ b u, (fun b => if b = a then some (HO.frz { cls := .type "list", data := .seq vs.toArray } (.lst (ns.map V.int))) else if b = Pt then some (HO.tbl #[]) else none : Hp) b = some u → (b = a ∧ u = .frz { cls := .type "list", data := .seq vs.toArray } (.lst (ns.map V.int))) ∨ (b = Pt ∧ u = .tbl #[]) := by
        intro b u z
        by_cases e : b = a
        · exact .inl ⟨e, (Option.some.inj ((if_pos e).symm.trans z)).symm⟩
        · have z := (if_neg e).symm.trans z
          by_cases e2 : b = Pt
          · exact .inr ⟨e2, (Option.some.inj ((if_pos e2).symm.trans z)).symm⟩
          · exact nomatch (if_neg e2).symm.trans z
      refine ⟨_, (if_neg apart.symm).trans (if_pos rfl), .inl (.inr ⟨_, if_pos rfl⟩), fun b u z => ?_, two, fun b u z => ?_⟩
      · rcases two b u z with ⟨rfl, rfl⟩ | ⟨rfl, rfl⟩
        · exact ⟨script, by rw [List.length_map]; exact few, vs, _, ivs, script⟩
        · exact empty
      · rcases two b u z with ⟨rfl, _⟩ | ⟨rfl, _⟩
        · exact look
        · exact loose
  have stays : ∀ {b : Addr} {o : Obj}, s₁.heap.get? b = some o → (∀ u, H b ≠ some u) → (hidT s₁.heap H).get? b = some o := fun {b o} e no => hidT_get e (by
    cases z : H b with
    | none => rfl
    | some u => exact (no u z).elim)
  have plainly : ∀ {b : Addr} {o : Obj}, s₁.heap.get? b = some o → (∀ v n, o.data ≠ .seq v n) → (∀ v, o.data ≠ .fields v) → (hidT s₁.heap H).get? b = some o := fun {b o} e n1 n2 => stays e fun u z => by
    rcases only b u z with ⟨rfl, _⟩ | ⟨rfl, _⟩
    · rw [script] at e
      injection e with e
      subst e
      exact n1 _ _ rfl
    · rw [empty] at e
      injection e with e
      subst e
      exact n2 _ rfl
  have spaces : ∀ {b : Addr} {m : Str → Option Value}, s₁.heap.Ns b m → (hidT s₁.heap H).Ns b m := by
    rintro b m ⟨o, es, ep, there, data, rest⟩
    refine ⟨o, es, ep, plainly there (fun v n z => ?_) (fun v z => ?_), data, rest⟩
    · rw [data] at z
      exact nomatch z
    · rw [data] at z
      exact nomatch z
  have inn : K.In (hidT s₁.heap H) := fun b o e => stays (inK b o e) fun u z => by
    rw [free b u z] at e
    exact nomatch e
  have mod : Mod K mg (hidT s₁.heap H) := by
    obtain ⟨mc, c1, c2⟩ := unlim
    exact ⟨inn, spaces names, ⟨mb, spaces bnames, boots⟩, mc, spaces c1, c2⟩
  have tb : TabB (hidT s₁.heap H) mg c Pt := by
    refine ⟨PySem.W.codeHd_of_K inn head, ?_, fun z => ?_⟩
    · obtain ⟨bm, ob, m1, m2, m3, m4, m5, m6⟩ := mods
      refine ⟨bm, ob, m1, m2, fun z => ?_, fun z => ?_, plainly m3 (fun v n z => ?_) (fun v z => ?_), m4, m5, m6⟩
      · obtain ⟨o, es, ep, there, data, _⟩ := names
        rw [z, there] at m3
        injection m3 with m3
        subst m3
        rw [data] at m6
        exact nomatch m6
      · rw [z, empty] at m3
        injection m3 with m3
        subst m3
        exact nomatch m6
      · rw [m6] at z
        exact nomatch z
      · rw [m6] at z
        exact nomatch z
    · obtain ⟨o, es, ep, there, data, _⟩ := names
      rw [z, empty] at there
      injection there with there
      subst there
      exact nomatch data
  have e0 : Env0 P w K mg (hidT s₁.heap H) callerA [] s₁ H := by
    refine ⟨rfl, mod, fun b o e => of_hidT e, Nat.le_of_eq (hidT_size _ _), trivial, ?_, ok, .of_eq nogen⟩
    intro b q
    exact absurd q (List.not_mem_nil (a := b))
  refine codeAny_mono ((each _ inn (spaces names) tb).run callerA [] s₁ H ⟨[.ref a], []⟩ [.ref a] [.ref a] _ _ rfl room e0 (binds s₁ (.ref a)) (.cons rfl .nil) (asked H table seq)) ?_
  rintro (e | out) s' got
  · exact got.elim
  · match out, got with
    | .next, got => exact got.elim
    | .brk, got => exact got.elim
    | .cont, got => exact got.elim
    | .ret u, ⟨v, H', os, bare, un, ok', rel, q⟩ =>
      have q : v = V.bl true := q
      subst q
      have rel : u = Value.bool true := rel
      subst rel
      have kept : ∀ b o, b ≠ Pt → s₁.heap.get? b = some o → s'.heap.get? b = some o := fun b o other e => by
        cases z : H b with
        | none => exact un.keep b o e z (List.not_mem_nil (a := b)) (List.not_mem_nil (a := b))
        | some u =>
          rcases only b u z with ⟨rfl, rfl⟩ | ⟨rfl, rfl⟩
          · have now := (ok' _ _ (un.frzs _ _ _ z)).1
            rw [script] at e
            injection e with e
            rw [← e]
            exact now
          · exact (other rfl).elim
      obtain ⟨more, grown⟩ := un.tbls Pt #[] table
      have grown := ok' Pt _ grown
      refine ⟨rfl, ⟨fun b o e => ?_, fun b o e => ?_⟩, os, bare⟩
      · by_cases eb : b = Pt
        · subst eb
          rw [empty] at e
          injection e with e
          subst e
          exact .inr (.inl ⟨((PySem.W.codeHd_of_K inK head).tab empty).isCodeTable, rfl, #[], _, rfl, by rw [Array.empty_append]; exact grown⟩)
        · exact .inl (kept b o eb e)
      · by_cases eb : b = Pt
        · subst eb
          exact ⟨_, grown⟩
        · exact ⟨o, kept b o eb e⟩
/-- at the end of a law that makes lambdas of its own -/
theorem walk_at_lawT {l : PySem.W.OpenLaw} {k : Nat} {q : Program} {loose : List Str} {XP : (Str → Option Value) → Heap → Prop} {YP : World → Heap → Prop} {d : DefRec} {K : Params → PySem.W.Frag} {sp : PySem.W.Frag → Addr → Sp} {x : Str}
    (hn : l.most = some 63) (hdf : d.params.defaults = []) (listed : ((recsOf q).any fun e => e.name == d.name) = true) (hr : Room k callerA) (hY : ∀ (w : World) (h : Heap), YP w h → (K w.params).In h)
    (F : ∀ (w : World) (mg : Str → Option Value) (fa : Addr) (h : Heap), (K w.params).In h → h.Ns mainGlobals mg → mg d.name = some (.ref fa) → OwnTab (K w.params) fa h →
      ∃ (fd : FuncData) (c Pt : Addr), h.get? Pt = some (PySem.W.tabObj #[]) ∧ (K w.params).lookup Pt = none ∧ PySem.W.codeHdIn (K w.params) c Pt = true ∧ (∀ (s : Shared) (u : Value), BindsTo s fd ⟨[u], []⟩ [(x, u)]) ∧
        ∀ base : Heap, (K w.params).In base → base.Ns mainGlobals mg → TabB base mg c Pt → FnG l.prog w (K w.params) mg base k fa fd [x] (sp (K w.params) Pt))
    (asked : ∀ (K : PySem.W.Frag) (Pt : Addr) (H : Hp) (a : Addr) (ns : List Int), ns.length ≤ 63 → H Pt = some (.tbl #[]) → SqL K H a (ns.map V.int) → sp K Pt [.ref a] H (fun v _ => v = .bl true) E0) :
    PySem.W.WalkO q loose XP YP l.row.toRowW d [] (fun f vs => PySem.call f vs) := by
  refine Att.attach_call hn hdf ?_
  intro w s₀ s₁ mg mb fa o pm cd doc a vs ns G Y ho hd hcd hmg hobj hints hlen hg
  have inn := hY w _ Y
  have mine : OwnTab (K w.params) fa s₁.heap := by
    intro c Pt o1 fd1 e dd vs1 sl z1 z2 z3 z4 z5
    obtain ⟨r, mem, same⟩ := List.any_eq_true.mp listed
    obtain ⟨a2, o2, fd2, c2, P2, y1, y2, y3, y4, _, ⟨oc, vc, x1, _, x3, x4⟩, there⟩ := G.T.tab r mem
    rw [beq_iff_eq.mp same, hmg] at y1
    obtain rfl : fa = a2 := by
      injection y1 with y1
      injection y1
    have f1 := inn _ _ z1
    rw [y2] at f1
    injection f1 with f1
    subst f1
    rw [z2] at y3
    injection y3 with y3
    subst y3
    rw [z3] at y4
    injection y4 with y4
    subst y4
    have f2 := inn _ _ z4
    rw [x1] at f2
    injection f2 with f2
    subst f2
    injection x3 with x3
    subst x3
    rw [z5] at x4
    injection x4 with x4
    injection x4 with x4
    subst x4
    exact there
  obtain ⟨fd, c, Pt, t1, t2, t3, bind, each⟩ := F w mg fa _ inn G.T.g hmg mine
  exact law_atT inn G.T.g G.T.b G.T.builtins G.T.nolimit hg t1 t2 t3 G.T.bmain hobj hints (Nat.le_trans hlen (by decide)) hr each bind fun H tb sq => asked (K w.params) Pt H a ns hlen tb sq
/-- the law's own def, its code object known -/
theorem FnG.bodyC {P : Program} {w : World} {K : PySem.W.Frag} {mg : Str → Option Value} {base : Heap} {k : Nat} {f c : Addr} {fd : FuncData} {ps : List Str} {sp : Sp} {x : Str} {st : Stmt} {N : List Str} (F : Fun K x x st f fd) (code : fd.code = .ref c) (S : FnScope N ps (defScope st)) (len : ∀ vs H Q E, sp vs H Q E → vs.length = ps.length)
    (hb : ∀ (A : Around) (outer : List Env) (s : Shared) (H : Hp) (vs : List V) (Q : VK) (E : XK), A.guards = some [] → Room k (A.deeper (envOfC x (defScope st) s.heap.objs.size f (.ref c))) → sp vs H Q E →
      ∃ t, PSs (cxOf CX0 P w K mg base N x (defScope st) f (.ref c) A outer s H E).nox (defBody st) t ∧ t { nx := fun _ H' => Q .non H', rt := Q } (L2.start N vs) H) : FnG P w K mg base (k + 1) f fd ps sp := by
  obtain ⟨oc, od, kV, doc, pm, an, cdv, ct, osl, efd, look, coded⟩ := F.ex
  subst efd
  have known : cdv = .ref c := code
  subst known
  constructor
  · exact len
  intro A outer s H args us vs Q E guard room e0 bind rel want
  have inn : K.In s.heap := e0.mod.kin.keeps fun b o e => (e0.bs b o e).1
  have nolim : s.heap.NoLimit := e0.mod.nolimit.keeps fun b o e => (e0.bs b o e).1
  refine codeAny_call_function room.depth (inn _ _ look) rfl S.co S.gen rfl (PySem.W.codeRec_of inn coded) (bind _ _ _ _ ?_)
  refine wpAny_newFunctionEnv_cells S.kind ?_ ?_
  · rintro ⟨n, v⟩ there
    have := S.par n (List.of_mem_zip there).1
    cases this with
    | inl q => exact .inl q
    | inr q => exact .inr ⟨q, PySem.W.cellsFrom_some _ _ _ (.inl q)⟩
  · intro env eenv s1 laid
    subst eenv
    refine ⟨nolim.keeps laid.toInCall.keep, codeAny_func ?_⟩
    obtain ⟨t, der, goal⟩ := hb A outer s H vs Q E guard (room.deeper _) want
    have I := inv_start (CX := CX0) (E := E) S room.hd e0 (len _ _ _ _ want) rel laid
    refine wpAny_mono (der.nox.run [] s1 (L2.start N vs) H _ I goal) (fun out s' got => ?_) fun e s' got => got
    match out, got with
    | .ret u, ⟨v, σ', H', J, rv, q⟩ => exact ⟨v, H', J.os, J.bare, J.base, J.hok, rv, q⟩
    | .next, ⟨σ', H', J, q⟩ => exact ⟨V.non, H', J.os, J.bare, J.base, J.hok, rfl, q⟩
    | .brk, ⟨_, _, _, q⟩ => exact q.elim
    | .cont, ⟨_, _, _, q⟩ => exact q.elim
end Sm

set_option Elab.async false
set_option linter.all false
set_option maxRecDepth 100000
set_option maxHeartbeats 4000000
namespace Sm
open PySem PySem.Spec PyProof.Rows L2 LamX
/-! ### the law's own call where the law makes lambdas: its table of code objects is tracked too -/
theorem law_atTs {P : Program} {w : World} {K : PySem.W.Frag} {mg mb : Str → Option Value} {k : Nat} {fa a : Addr} {ct : List (Addr × Addr)} {TT : List (Addr × Str)} {fd : FuncData} {x : Str} {sp : Sp} {s₁ : Shared} {vs : List Value} {ns : List Int}
    (inK : K.In s₁.heap) (names : s₁.heap.Ns mainGlobals mg) (bnames : s₁.heap.Ns builtinsNs mb) (boots : ∀ x : Str, x ≠ "__name__" → mb x = bootBuiltins x) (unlim : s₁.heap.NoLimit) (nogen : s₁.gens = #[])
    (empty : ∀ t ∈ ct, s₁.heap.get? t.2 = some (PySem.W.tabObj #[])) (loose : ∀ t ∈ ct, K.lookup t.2 = none) (head : ∀ t ∈ ct, PySem.W.codeHdIn K t.1 t.2 = true) (names2 : TT.map (·.1) = ct.map (·.2))
    (mods : ∃ (bm : Addr) (ob : Obj), mg "__builtins__" = some (.ref bm) ∧ bm ≠ builtinsNs ∧ s₁.heap.get? bm = some ob ∧ ob.cls = .type "module" ∧ ob.dict = some builtinsNs ∧ ob.data = .plain)
    (script : s₁.heap.get? a = some { cls := .type "list", data := .seq vs.toArray }) (whole : IntsAre vs ns) (few : ns.length ≤ sizeLine) (room : Room k callerA)
    (each : ∀ base : Heap, K.In base → base.Ns mainGlobals mg → (∀ t ∈ ct, TabB base mg t.1 t.2) → FnG P w K mg base k fa fd [x] sp) (binds : ∀ (s : Shared) (u : Value), BindsTo s fd ⟨[u], []⟩ [(x, u)])
    (asked : ∀ H : Hp, Tabs TT H → SqL K H a (ns.map V.int) → sp [.ref a] H (fun v _ => v = .bl true) E0) :
    codeAny (model P w) callerA (.call (.ref fa) ⟨[.ref a], []⟩) (fun r s' => r = .ok (.ret (.bool true)) ∧ OldK s₁.heap s'.heap ∧ s'.os = s₁.os ∧ AllBare s'.gens) s₁ := by
  have ivs := vals_ints whole
  obtain ⟨Ps, hPs⟩ : ∃ Ps, Ps = ct.map (·.2) := ⟨_, rfl⟩
  have emptyP : ∀ b ∈ Ps, s₁.heap.get? b = some (PySem.W.tabObj #[]) := fun b hb => by
    rw [hPs] at hb
    obtain ⟨t, ht, rfl⟩ := List.mem_map.mp hb
    exact empty t ht
  have looseP : ∀ b ∈ Ps, K.lookup b = none := fun b hb => by
    rw [hPs] at hb
    obtain ⟨t, ht, rfl⟩ := List.mem_map.mp hb
    exact loose t ht
  have headP : ∀ b ∈ Ps, ∃ c, PySem.W.codeHdIn K c b = true := fun b hb => by
    rw [hPs] at hb
    obtain ⟨t, ht, rfl⟩ := List.mem_map.mp hb
    exact ⟨t.1, head t ht⟩
  have apart : a ∉ Ps := fun e => by
    rw [emptyP a e] at script
    have z : Data.fields #[] = Data.seq vs.toArray _ := congrArg Obj.data (Option.some.inj script)
    cases z
  -- what is tracked: the table, and the script if the module does not hold it itself
  obtain ⟨H, table, seq, ok, only, free⟩ : ∃ H : Hp, (∀ b ∈ Ps, H b = some (.tbl #[])) ∧ SqL K H a (ns.map V.int) ∧ HOk P w H s₁.heap ∧ (∀ b u, H b = some u → (b = a ∧ u = .frz { cls := .type "list", data := .seq vs.toArray } (.lst (ns.map V.int))) ∨ (b ∈ Ps ∧ u = .tbl #[])) ∧ ∀ b u, H b = some u → K.lookup b = none := by
    cases look : K.lookup a with
    | some o =>
      have same := inK a o look
      rw [script] at same
      injection same with same
      subst same
      have one : ∀ b u, (fun b => if b ∈ Ps then some (HO.tbl #[]) else none : Hp) b = some u → b ∈ Ps ∧ u = .tbl #[] := by
        intro b u z
        by_cases e : b ∈ Ps
        · exact ⟨e, (Option.some.inj ((if_pos e).symm.trans z)).symm⟩
        · exact nomatch (if_neg e).symm.trans z
      refine ⟨fun b => if b ∈ Ps then some (.tbl #[]) else none, fun b hb => if_pos hb, .inr ⟨_, vs.toArray, _, look, rfl, rfl, rfl, ?_, ?_⟩, fun b u z => ?_, fun b u z => .inr (one b u z), fun b u z => ?_⟩
      · rw [List.size_toArray, whole.length]
        exact few
      · simpa using ivs
      · obtain ⟨mem, rfl⟩ := one b u z
        exact emptyP b mem
      · exact looseP b (one b u z).1
    | none =>
      have two : ∀ b u, (fun b => if b = a then some (HO.frz { cls := .type "list", data := .seq vs.toArray } (.lst (ns.map V.int))) else if b ∈ Ps then some (HO.tbl #[]) else none : Hp) b = some u → (b = a ∧ u = .frz { cls := .type "list", data := .seq vs.toArray } (.lst (ns.map V.int))) ∨ (b ∈ Ps ∧ u = .tbl #[]) := by
        intro b u z
        by_cases e : b = a
        · exact .inl ⟨e, (Option.some.inj ((if_pos e).symm.trans z)).symm⟩
        · have z := (if_neg e).symm.trans z
          by_cases e2 : b ∈ Ps
          · exact .inr ⟨e2, (Option.some.inj ((if_pos e2).symm.trans z)).symm⟩
          · exact nomatch (if_neg e2).symm.trans z
      refine ⟨fun b => if b = a then some (HO.frz { cls := .type "list", data := .seq vs.toArray } (.lst (ns.map V.int))) else if b ∈ Ps then some (HO.tbl #[]) else none, fun b hb => (if_neg (show ¬ b = a from fun e => apart (e ▸ hb))).trans (if_pos hb), .inl (.inr ⟨_, if_pos rfl⟩), fun b u z => ?_, two, fun b u z => ?_⟩
      · rcases two b u z with ⟨rfl, rfl⟩ | ⟨mem, rfl⟩
        · exact ⟨script, by rw [List.length_map]; exact few, vs, _, ivs, script⟩
        · exact emptyP b mem
      · rcases two b u z with ⟨rfl, _⟩ | ⟨mem, _⟩
        · exact look
        · exact looseP b mem
  have stays : ∀ {b : Addr} {o : Obj}, s₁.heap.get? b = some o → (∀ u, H b ≠ some u) → (hidT s₁.heap H).get? b = some o := fun {b o} e no => hidT_get e (by
    cases z : H b with
    | none => rfl
    | some u => exact (no u z).elim)
  have plainly : ∀ {b : Addr} {o : Obj}, s₁.heap.get? b = some o → (∀ v n, o.data ≠ .seq v n) → (∀ v, o.data ≠ .fields v) → (hidT s₁.heap H).get? b = some o := fun {b o} e n1 n2 => stays e fun u z => by
    rcases only b u z with ⟨rfl, _⟩ | ⟨mem, _⟩
    · rw [script] at e
      injection e with e
      subst e
      exact n1 _ _ rfl
    · rw [emptyP b mem] at e
      injection e with e
      subst e
      exact n2 _ rfl
  have spaces : ∀ {b : Addr} {m : Str → Option Value}, s₁.heap.Ns b m → (hidT s₁.heap H).Ns b m := by
    rintro b m ⟨o, es, ep, there, data, rest⟩
    refine ⟨o, es, ep, plainly there (fun v n z => ?_) (fun v z => ?_), data, rest⟩
    · rw [data] at z
      exact nomatch z
    · rw [data] at z
      exact nomatch z
  have inn : K.In (hidT s₁.heap H) := fun b o e => stays (inK b o e) fun u z => by
    rw [free b u z] at e
    exact nomatch e
  have mod : Mod K mg (hidT s₁.heap H) := by
    obtain ⟨mc, c1, c2⟩ := unlim
    exact ⟨inn, spaces names, ⟨mb, spaces bnames, boots⟩, mc, spaces c1, c2⟩
  have tb : ∀ t ∈ ct, TabB (hidT s₁.heap H) mg t.1 t.2 := fun t ht => by
    have empty := empty t ht
    refine ⟨PySem.W.codeHd_of_K inn (head t ht), ?_, fun z => ?_⟩
    · obtain ⟨bm, ob, m1, m2, m3, m4, m5, m6⟩ := mods
      refine ⟨bm, ob, m1, m2, fun z => ?_, fun z => ?_, plainly m3 (fun v n z => ?_) (fun v z => ?_), m4, m5, m6⟩
      · obtain ⟨o, es, ep, there, data, _⟩ := names
        rw [z, there] at m3
        injection m3 with m3
        subst m3
        rw [data] at m6
        exact nomatch m6
      · rw [z, empty] at m3
        injection m3 with m3
        subst m3
        exact nomatch m6
      · rw [m6] at z
        exact nomatch z
      · rw [m6] at z
        exact nomatch z
    · obtain ⟨o, es, ep, there, data, _⟩ := names
      rw [z, empty] at there
      injection there with there
      subst there
      exact nomatch data
  have e0 : Env0 P w K mg (hidT s₁.heap H) callerA [] s₁ H := by
    refine ⟨rfl, mod, fun b o e => of_hidT e, Nat.le_of_eq (hidT_size _ _), trivial, ?_, ok, .of_eq nogen⟩
    intro b q
    exact absurd q (List.not_mem_nil (a := b))
  refine codeAny_mono ((each _ inn (spaces names) tb).run callerA [] s₁ H ⟨[.ref a], []⟩ [.ref a] [.ref a] _ _ rfl room e0 (binds s₁ (.ref a)) (.cons rfl .nil) (asked H (fun y hy => by
    have m : y.1 ∈ Ps := by
      rw [hPs, ← names2]
      exact List.mem_map.mpr ⟨y, hy, rfl⟩
    exact TabS.nil (table _ m)) seq)) ?_
  rintro (e | out) s' got
  · exact got.elim
  · match out, got with
    | .next, got => exact got.elim
    | .brk, got => exact got.elim
    | .cont, got => exact got.elim
    | .ret u, ⟨v, H', os, bare, un, ok', rel, q⟩ =>
      have q : v = V.bl true := q
      subst q
      have rel : u = Value.bool true := rel
      subst rel
      have kept : ∀ b o, b ∉ Ps → s₁.heap.get? b = some o → s'.heap.get? b = some o := fun b o other e => by
        cases z : H b with
        | none => exact un.keep b o e z (List.not_mem_nil (a := b)) (List.not_mem_nil (a := b))
        | some u =>
          rcases only b u z with ⟨rfl, rfl⟩ | ⟨mem, rfl⟩
          · have now := (ok' _ _ (un.frzs _ _ _ z)).1
            rw [script] at e
            injection e with e
            rw [← e]
            exact now
          · exact (other mem).elim
      have grow : ∀ b ∈ Ps, ∃ more : Array Value, s'.heap.get? b = some (PySem.W.tabObj (#[] ++ more)) := fun b hb => by
        obtain ⟨more, grown⟩ := un.tbls b #[] (table b hb)
        exact ⟨more, ok' b _ grown⟩
      refine ⟨rfl, ⟨fun b o e => ?_, fun b o e => ?_⟩, os, bare⟩
      · by_cases eb : b ∈ Ps
        · obtain ⟨more, grown⟩ := grow b eb
          obtain ⟨c, hc⟩ := headP b eb
          have e0 := emptyP b eb
          rw [e0] at e
          injection e with e
          subst e
          exact .inr (.inl ⟨((PySem.W.codeHd_of_K inK hc).tab e0).isCodeTable, rfl, #[], _, rfl, by rw [Array.empty_append]; rw [Array.empty_append] at grown; exact grown⟩)
        · exact .inl (kept b o eb e)
      · by_cases eb : b ∈ Ps
        · obtain ⟨more, grown⟩ := grow b eb
          exact ⟨_, grown⟩
        · exact ⟨o, kept b o eb e⟩
/-- at the end of a law that makes lambdas of its own -/
theorem walk_at_lawTs {l : PySem.W.OpenLaw} {k : Nat} {q : Program} {loose : List Str} {XP : (Str → Option Value) → Heap → Prop} {YP : World → Heap → Prop} {d : DefRec} {K : Params → PySem.W.Frag} {sp : PySem.W.Frag → List (Addr × Str) → Sp} {x : Str}
    (hn : l.most = some 63) (hdf : d.params.defaults = []) (hr : Room k callerA) (hY : ∀ (w : World) (h : Heap), YP w h → (K w.params).In h)
    (F : ∀ (w : World) (mg : Str → Option Value) (fa : Addr) (h : Heap), (K w.params).In h → h.Ns mainGlobals mg → mg d.name = some (.ref fa) → (∀ (nm : Str) (f : Addr), ((recsOf q).any fun e => e.name == nm) = true → mg nm = some (.ref f) → OwnTab (K w.params) f h) →
      ∃ (fd : FuncData) (ct : List (Addr × Addr)) (TT : List (Addr × Str)), (∀ t ∈ ct, h.get? t.2 = some (PySem.W.tabObj #[])) ∧ (∀ t ∈ ct, (K w.params).lookup t.2 = none) ∧ (∀ t ∈ ct, PySem.W.codeHdIn (K w.params) t.1 t.2 = true) ∧ TT.map (·.1) = ct.map (·.2) ∧ (∀ (s : Shared) (u : Value), BindsTo s fd ⟨[u], []⟩ [(x, u)]) ∧
        ∀ base : Heap, (K w.params).In base → base.Ns mainGlobals mg → (∀ t ∈ ct, TabB base mg t.1 t.2) → FnG l.prog w (K w.params) mg base k fa fd [x] (sp (K w.params) TT))
    (asked : ∀ (K : PySem.W.Frag) (TT : List (Addr × Str)) (H : Hp) (a : Addr) (ns : List Int), ns.length ≤ 63 → Tabs TT H → SqL K H a (ns.map V.int) → sp K TT [.ref a] H (fun v _ => v = .bl true) E0) :
    PySem.W.WalkO q loose XP YP l.row.toRowW d [] (fun f vs => PySem.call f vs) := by
  refine Att.attach_call hn hdf ?_
  intro w s₀ s₁ mg mb fa o pm cd doc a vs ns G Y ho hd hcd hmg hobj hints hlen hg
  have inn := hY w _ Y
  have mine : ∀ (nm : Str) (f : Addr), ((recsOf q).any fun e => e.name == nm) = true → mg nm = some (.ref f) → OwnTab (K w.params) f s₁.heap := by
    intro nm fa listed hmg c Pt o1 fd1 e dd vs1 sl z1 z2 z3 z4 z5
    obtain ⟨r, mem, same⟩ := List.any_eq_true.mp listed
    obtain ⟨a2, o2, fd2, c2, P2, y1, y2, y3, y4, _, ⟨oc, vc, x1, _, x3, x4⟩, there⟩ := G.T.tab r mem
    rw [beq_iff_eq.mp same, hmg] at y1
    obtain rfl : fa = a2 := by
      injection y1 with y1
      injection y1
    have f1 := inn _ _ z1
    rw [y2] at f1
    injection f1 with f1
    subst f1
    rw [z2] at y3
    injection y3 with y3
    subst y3
    rw [z3] at y4
    injection y4 with y4
    subst y4
    have f2 := inn _ _ z4
    rw [x1] at f2
    injection f2 with f2
    subst f2
    injection x3 with x3
    subst x3
    rw [z5] at x4
    injection x4 with x4
    injection x4 with x4
    subst x4
    exact there
  obtain ⟨fd, ct, TT, t1, t2, t3, t4, bind, each⟩ := F w mg fa _ inn G.T.g hmg mine
  exact law_atTs inn G.T.g G.T.b G.T.builtins G.T.nolimit hg t1 t2 t3 t4 G.T.bmain hobj hints (Nat.le_trans hlen (by decide)) hr each bind fun H tb sq => asked (K w.params) TT H a ns hlen tb sq
end Sm

set_option Elab.async false
set_option linter.all false
set_option maxRecDepth 100000
set_option maxHeartbeats 16000000
namespace Sm
open PySem PySem.Spec PyProof.Rows L2
/-- a promise that is never broken by a raise -/
theorem no_raise {P : Program} {w : World} {K : PySem.W.Frag} {mg : Str → Option Value} {base : Heap} {k : Nat} {f : Addr} {fd : FuncData} {ps : List Str} {sp sp' : Sp} (F : FnOk P w K mg base (L2.CX P w) k f fd ps sp) (h : ∀ vs H Q E, sp' vs H Q E → sp vs H Q E0) : FnOk P w K mg base CX0 k f fd ps sp' := by
  refine ⟨fun vs H Q E h' => F.len _ _ _ _ (h _ _ _ _ h'), fun A outer s H args us vs Q E hr e0 hb hv h' => ?_⟩
  refine codeAny_mono (F.run A outer s H args us _ Q E0 hr e0 hb hv (h _ _ _ _ h')) ?_
  rintro (e | fl) s' got
  · obtain ⟨_, _, _, _, _, _, _, _, _, _, _, _, hE⟩ := got
    exact hE.elim
  · match fl, got with
    | .next, got => exact got.elim
    | .brk, got => exact got.elim
    | .cont, got => exact got.elim
    | .ret u, got => exact got
theorem no_raiseC {P : Program} {w : World} {K : PySem.W.Frag} {mg : Str → Option Value} {base : Heap} {k : Nat} {x : Str} {ps : List Str} {sp sp' : Sp} (C : CalX P w K mg base x ps k sp) (h : ∀ vs H Q E, sp' vs H Q E → sp vs H Q E0) : Cal P w K mg base x ps k sp' := by
  obtain ⟨f, fd, F, m, kp, b⟩ := C
  exact ⟨f, fd, no_raise F h, m, kp, b⟩
end Sm

set_option Elab.async false
set_option linter.all false
set_option maxRecDepth 100000
set_option maxHeartbeats 4000000
namespace Sm
open PySem PySem.Spec PyProof.Rows L2
/-! ### comprehensions whose items are told one by one, what stands stays -/
abbrev lcmQ (H : Hp) (D : Addr) (fv : Nat → V) (i : Nat) : VK := fun y H4 => ∃ acc, H4 D = some (.lst acc) ∧ acc.length < sizeLine ∧ Same H (upd H4 D (.lst (acc ++ [y]))) ∧ upd H4 D (.lst (acc ++ [y])) D = some (.lst ((List.range (i + 1)).map fv))
theorem lcm_step {H H' H4 : Hp} {D : Addr} {i n : Nat} {fv : Nat → V} (nD : H D = none) (s : Same H H') (hD : H' D = some (.lst ((List.range i).map fv))) (hi : i ≤ n) (ln : n ≤ 20000) (s4 : Same H' H4) :
    ∃ acc, H4 D = some (.lst acc) ∧ acc.length < sizeLine ∧ Same H (upd H4 D (.lst (acc ++ [fv i]))) ∧ upd H4 D (.lst (acc ++ [fv i])) D = some (.lst ((List.range (i + 1)).map fv)) := by
  refine ⟨_, s4 _ _ hD, ?_, fun b o e => ?_, ?_⟩
  · rw [List.length_map, List.length_range]
    exact Nat.lt_of_le_of_lt (show i ≤ 20000 by omega) (by decide)
  · rw [upd_ne (ne_of_none e nD)]
    exact s4 _ _ (s _ _ e)
  · rw [upd_same, List.range_succ, List.map_append]
    rfl
theorem lc_mT {K : PySem.W.Frag} {a : Addr} {xs : List V} {g : TG} {te : TE} {vs : List Nat} {σ : L2.St} {H : Hp} {D : Addr} {Qd : Hp → Prop} (fv : Nat → V) (ha : H a = some (.tup xs)) (nD : H D = none) (ln : xs.length ≤ 20000)
    (hs : ∀ i x H', xs[i]? = some x → Same H H' → ∀ R : VK, (∀ H4, Same H' H4 → R (fv i) H4) → g x (wipe σ vs) H' fun σ2 H2 => wipe σ2 vs = wipe σ vs ∧ te σ2 H2 R)
    (mono : ∀ x H' (A B : L2.St → Hp → Prop), (∀ σ2 H2, A σ2 H2 → B σ2 H2) → g x (wipe σ vs) H' A → g x (wipe σ vs) H' B)
    (hd : ∀ H', Same H H' → H' D = some (.lst ((List.range xs.length).map fv)) → Qd H') :
    ∃ W : Nat → Nat → Hp → Prop, (∃ m, W 0 m (upd H D (.lst []))) ∧ ∀ i m H, W i m H → ((Itt K a).stop i H ∧ Qd H) ∨ ((Itt K a).go i H ∧ ∃ Nx : Hp → Prop, (∀ H', Nx H' → ∃ m', m' < m ∧ W (i + 1) m' H') ∧ ∀ x H', (Itt K a).yld i H x H' → g x (wipe σ vs) H' fun σ2 H2 => wipe σ2 vs = wipe σ vs ∧ tYes σ2 H2 fun b H3 =>
        if b = true then te σ2 H3 fun y H4 => ∃ acc, H4 D = some (.lst acc) ∧ acc.length < sizeLine ∧ Nx (upd H4 D (.lst (acc ++ [y]))) else Nx H3) := by
  refine lc_tup (K := K) (a := a) (xs := xs) (fun i H' => Same H H' ∧ H' D = some (.lst ((List.range i).map fv))) ⟨same_upd nD, upd_same⟩ (fun i H' _ h => SqT.of (h.1 _ _ ha)) ?_ (fun H' h => hd H' h.1 h.2)
  rintro i x H' hx ⟨s, hD⟩
  have il : i < xs.length := (List.getElem?_eq_some_iff.mp hx).1
  refine mono x H' _ _ ?_ (hs i x H' hx s (lcmQ H D fv i) fun H4 s4 => lcm_step nD s hD (Nat.le_of_lt il) ln s4)
  rintro σ2 H2 ⟨e, h⟩
  refine ⟨e, ?_⟩
  unfold tYes
  exact iteT h
theorem lc_mL {K : PySem.W.Frag} {a : Addr} {xs : List V} {g : TG} {te : TE} {vs : List Nat} {σ : L2.St} {H : Hp} {D : Addr} {Qd : Hp → Prop} (fv : Nat → V) (ha : H a = some (.lst xs)) (nD : H D = none) (ln : xs.length ≤ 20000)
    (hs : ∀ i x H', xs[i]? = some x → Same H H' → ∀ R : VK, (∀ H4, Same H' H4 → R (fv i) H4) → g x (wipe σ vs) H' fun σ2 H2 => wipe σ2 vs = wipe σ vs ∧ te σ2 H2 R)
    (mono : ∀ x H' (A B : L2.St → Hp → Prop), (∀ σ2 H2, A σ2 H2 → B σ2 H2) → g x (wipe σ vs) H' A → g x (wipe σ vs) H' B)
    (hd : ∀ H', Same H H' → H' D = some (.lst ((List.range xs.length).map fv)) → Qd H') :
    ∃ W : Nat → Nat → Hp → Prop, (∃ m, W 0 m (upd H D (.lst []))) ∧ ∀ i m H, W i m H → ((Itl K a).stop i H ∧ Qd H) ∨ ((Itl K a).go i H ∧ ∃ Nx : Hp → Prop, (∀ H', Nx H' → ∃ m', m' < m ∧ W (i + 1) m' H') ∧ ∀ x H', (Itl K a).yld i H x H' → g x (wipe σ vs) H' fun σ2 H2 => wipe σ2 vs = wipe σ vs ∧ tYes σ2 H2 fun b H3 =>
        if b = true then te σ2 H3 fun y H4 => ∃ acc, H4 D = some (.lst acc) ∧ acc.length < sizeLine ∧ Nx (upd H4 D (.lst (acc ++ [y]))) else Nx H3) := by
  refine lc_list (K := K) (a := a) (xs := xs) (fun i H' => Same H H' ∧ H' D = some (.lst ((List.range i).map fv))) ⟨same_upd nD, upd_same⟩ (fun i H' _ h => SqL.of (h.1 _ _ ha)) ?_ (fun H' h => hd H' h.1 h.2)
  rintro i x H' hx ⟨s, hD⟩
  have il : i < xs.length := (List.getElem?_eq_some_iff.mp hx).1
  refine mono x H' _ _ ?_ (hs i x H' hx s (lcmQ H D fv i) fun H4 s4 => lcm_step nD s hD (Nat.le_of_lt il) ln s4)
  rintro σ2 H2 ⟨e, h⟩
  refine ⟨e, ?_⟩
  unfold tYes
  exact iteT h
theorem lc_mR {lo : Int} {n : Nat} {g : TG} {te : TE} {vs : List Nat} {σ : L2.St} {H : Hp} {D : Addr} {Qd : Hp → Prop} (fv : Nat → V) (nD : H D = none) (ln : n ≤ 20000)
    (hs : ∀ i H', i < n → Same H H' → ∀ R : VK, (∀ H4, Same H' H4 → R (fv i) H4) → g (.int (lo + i)) (wipe σ vs) H' fun σ2 H2 => wipe σ2 vs = wipe σ vs ∧ te σ2 H2 R)
    (mono : ∀ x H' (A B : L2.St → Hp → Prop), (∀ σ2 H2, A σ2 H2 → B σ2 H2) → g x (wipe σ vs) H' A → g x (wipe σ vs) H' B)
    (hd : ∀ H', Same H H' → H' D = some (.lst ((List.range n).map fv)) → Qd H') :
    ∃ W : Nat → Nat → Hp → Prop, (∃ m, W 0 m (upd H D (.lst []))) ∧ ∀ i m H, W i m H → ((Itr lo n).stop i H ∧ Qd H) ∨ ((Itr lo n).go i H ∧ ∃ Nx : Hp → Prop, (∀ H', Nx H' → ∃ m', m' < m ∧ W (i + 1) m' H') ∧ ∀ x H', (Itr lo n).yld i H x H' → g x (wipe σ vs) H' fun σ2 H2 => wipe σ2 vs = wipe σ vs ∧ tYes σ2 H2 fun b H3 =>
        if b = true then te σ2 H3 fun y H4 => ∃ acc, H4 D = some (.lst acc) ∧ acc.length < sizeLine ∧ Nx (upd H4 D (.lst (acc ++ [y]))) else Nx H3) := by
  refine lc_range (fun i H' => Same H H' ∧ H' D = some (.lst ((List.range i).map fv))) ⟨same_upd nD, upd_same⟩ ?_ (fun H' h => hd H' h.1 h.2)
  rintro i H' il ⟨s, hD⟩
  refine mono _ H' _ _ ?_ (hs i H' il s (lcmQ H D fv i) fun H4 s4 => lcm_step nD s hD (Nat.le_of_lt il) ln s4)
  rintro σ2 H2 ⟨e, h⟩
  refine ⟨e, ?_⟩
  unfold tYes
  exact iteT h
/-- one name -/
theorem gName_mono {j : Nat} {σ : L2.St} : ∀ (x : V) (H' : Hp) (A B : L2.St → Hp → Prop), (∀ σ2 H2, A σ2 H2 → B σ2 H2) → gName j x σ H' A → gName j x σ H' B := fun x H' A B h a => h _ _ a
end Sm

set_option Elab.async false
set_option linter.all false
set_option maxRecDepth 100000
set_option maxHeartbeats 4000000
namespace Sm
open PySem PySem.Spec PyProof.Rows L2
/-! ### comprehensions of draws over a range: each item is told by something that outlives all but its own tuples -/
def KeepT (H H' : Hp) : Prop := ∀ b xs, H b = some (.tup xs) → H' b = some (.tup xs)
/-- a row of values and what they are -/
def RowOf {α : Type} (rel : Hp → V → α → Prop) (H : Hp) (vs : List V) (as : List α) : Prop := vs.length = as.length ∧ ∀ (i : Nat) (v : V), vs[i]? = some v → ∃ a, as[i]? = some a ∧ rel H v a
theorem RowOf.keep {α : Type} {rel : Hp → V → α → Prop} (st : ∀ H H' v a, KeepT H H' → rel H v a → rel H' v a) {H H' : Hp} {vs : List V} {as : List α} (r : RowOf rel H vs as) (k : KeepT H H') : RowOf rel H' vs as :=
  ⟨r.1, fun i v e => by obtain ⟨a, h1, h2⟩ := r.2 i v e; exact ⟨a, h1, st _ _ _ _ k h2⟩⟩
theorem RowOf.snoc {α : Type} {rel : Hp → V → α → Prop} {H : Hp} {vs : List V} {as : List α} {v : V} {a : α} (r : RowOf rel H vs as) (h : rel H v a) : RowOf rel H (vs ++ [v]) (as ++ [a]) := by
  refine ⟨by rw [List.length_append, List.length_append, r.1]; rfl, fun i z e => ?_⟩
  rcases Nat.lt_or_ge i vs.length with c | c
  · rw [List.getElem?_append_left c] at e
    obtain ⟨b, h1, h2⟩ := r.2 i z e
    exact ⟨b, by rw [List.getElem?_append_left (by rw [← r.1]; exact c)]; exact h1, h2⟩
  · rw [List.getElem?_append_right c] at e
    have hi : i - vs.length = 0 := by
      rcases Nat.eq_zero_or_pos (i - vs.length) with q | q
      · exact q
      · rw [List.getElem?_eq_none (by show [v].length ≤ _; exact q)] at e
        cases e
    rw [hi] at e
    have e : z = v := (Option.some.inj e).symm
    subst e
    refine ⟨a, ?_, h⟩
    rw [List.getElem?_append_right (by rw [← r.1]; exact c), ← r.1, hi]
    rfl
theorem lc_rdA {α : Type} (rel : Hp → V → α → Prop) (st : ∀ H H' v a, KeepT H H' → rel H v a → rel H' v a) {lo : Int} {n : Nat} {g : TG} {te : TE} {vs : List Nat} {σ : L2.St} {H : Hp} {D p l : Addr} {n0 c : Int} {Qd : Hp → Prop} (G : α → Prop) (D0 : Deck H p l n0) (nD : H D = none) (ln : n ≤ 20000) (c0 : 0 ≤ c)
    (hs : ∀ i H' n', i < n → Fr p l H H' → Deck H' p l n' → n0 ≤ n' → n' ≤ n0 + c * (i : Int) → ∀ R : VK, (∀ H4 v a n4, Fr p l H' H4 → Deck H4 p l n4 → n' ≤ n4 → n4 ≤ n' + c → G a → rel H4 v a → R v H4) → g (.int (lo + i)) (wipe σ vs) H' fun σ2 H2 => wipe σ2 vs = wipe σ vs ∧ te σ2 H2 R)
    (mono : ∀ x H' (A B : L2.St → Hp → Prop), (∀ σ2 H2, A σ2 H2 → B σ2 H2) → g x (wipe σ vs) H' A → g x (wipe σ vs) H' B)
    (hd : ∀ H' (n' : Int) (us : List V) (as : List α), Fr p l H H' → Deck H' p l n' → n0 ≤ n' → n' ≤ n0 + c * (n : Int) → as.length = n → (∀ a ∈ as, G a) → RowOf rel H' us as → H' D = some (.lst us) → Qd H') :
    ∃ W : Nat → Nat → Hp → Prop, (∃ m, W 0 m (upd H D (.lst []))) ∧ ∀ i m H, W i m H → ((Itr lo n).stop i H ∧ Qd H) ∨ ((Itr lo n).go i H ∧ ∃ Nx : Hp → Prop, (∀ H', Nx H' → ∃ m', m' < m ∧ W (i + 1) m' H') ∧ ∀ x H', (Itr lo n).yld i H x H' → g x (wipe σ vs) H' fun σ2 H2 => wipe σ2 vs = wipe σ vs ∧ tYes σ2 H2 fun b H3 =>
        if b = true then te σ2 H3 fun y H4 => ∃ acc, H4 D = some (.lst acc) ∧ acc.length < sizeLine ∧ Nx (upd H4 D (.lst (acc ++ [y]))) else Nx H3) := by
  obtain ⟨Dp, Dl⟩ := D0.lne nD
  refine lc_range (fun i H' => ∃ (n' : Int) (us : List V) (as : List α), Fr p l H H' ∧ Deck H' p l n' ∧ n0 ≤ n' ∧ n' ≤ n0 + c * (i : Int) ∧ as.length = i ∧ (∀ a ∈ as, G a) ∧ RowOf rel H' us as ∧ H' D = some (.lst us)) ?_ ?_ ?_
  · exact ⟨n0, [], [], Same.fr (same_upd nD), D0.same (same_upd nD), by omega, by simp, rfl, fun x hx => (nomatch hx), ⟨rfl, fun i v e => by simp at e⟩, upd_same⟩
  · rintro i H' il ⟨n', us, as, f, D1, a0, a1, xl, xg, row, hD⟩
    refine mono _ H' _ _ ?_ (hs i H' n' il f D1 a0 a1 (fun y H4 => ∃ acc, H4 D = some (.lst acc) ∧ acc.length < sizeLine ∧ ∃ (n' : Int) (us : List V) (as : List α), Fr p l H (upd H4 D (.lst (acc ++ [y]))) ∧ Deck (upd H4 D (.lst (acc ++ [y]))) p l n' ∧ n0 ≤ n' ∧ n' ≤ n0 + c * ((i + 1 : Nat) : Int) ∧ as.length = i + 1 ∧ (∀ a ∈ as, G a) ∧ RowOf rel (upd H4 D (.lst (acc ++ [y]))) us as ∧ upd H4 D (.lst (acc ++ [y])) D = some (.lst us)) fun H4 v a n4 f4 D4 b0 b1 ga ra => ?_)
    · rintro σ2 H2 ⟨e, h⟩
      refine ⟨e, ?_⟩
      unfold tYes
      exact iteT h
    · have hD4 := f4 _ _ Dp Dl hD
      have kt : KeepT H4 (upd H4 D (.lst (us ++ [v]))) := fun b xs e => by
        rw [upd_ne (ne_of e hD4 (by intro q; cases q))]
        exact e
      refine ⟨us, hD4, ?_, n4, us ++ [v], as ++ [a], ?_, ⟨by rw [upd_ne Dp.symm]; exact D4.hp, ?_⟩, by omega, ?_, ?_, ?_, ?_, upd_same⟩
      · rw [row.1, xl]
        exact Nat.lt_of_le_of_lt (show i ≤ 20000 by omega) (by decide)
      · intro b o h1 h2 hb
        rw [upd_ne (ne_of_none hb nD)]
        exact f4 b o h1 h2 (f b o h1 h2 hb)
      · obtain ⟨cells, q1, q2⟩ := D4.hl
        exact ⟨cells, by rw [upd_ne Dl.symm]; exact q1, q2⟩
      · have : c * ((i + 1 : Nat) : Int) = c * (i : Int) + c := by rw [Int.natCast_add, Int.mul_add, show ((1 : Nat) : Int) = 1 from rfl, Int.mul_one]
        omega
      · rw [List.length_append, List.length_singleton, xl]
      · intro z hz
        rcases List.mem_append.mp hz with hz | hz
        · exact xg z hz
        · rw [List.mem_singleton.mp hz]
          exact ga
      · exact (row.keep st (H' := upd H4 D (.lst (us ++ [v]))) fun b xs e => kt b xs (f4.tup D1 e)).snoc (st _ _ _ _ kt ra)
  · rintro H' ⟨n', us, as, f, D1, a0, a1, xl, xg, row, hD⟩
    exact hd H' n' us as f D1 a0 a1 xl xg row hD
/-- ints -/
def relI : Hp → V → Int → Prop := fun _ v a => v = .int a
theorem relI_keep : ∀ H H' v a, KeepT H H' → relI H v a → relI H' v a := fun _ _ _ _ _ h => h
theorem RowOf.ints {H : Hp} : ∀ {vs : List V} {as : List Int}, RowOf relI H vs as → vs = as.map V.int
  | [], [], _ => rfl
  | [], _ :: _, h => nomatch h.1
  | _ :: _, [], h => nomatch h.1
  | v :: vs, a :: as, h => by
    obtain ⟨b, h1, h2⟩ := h.2 0 v rfl
    have h1 : a = b := Option.some.inj h1
    have h2 : v = .int b := h2
    have r : RowOf relI H vs as := ⟨Nat.succ.inj h.1, fun i z e => h.2 (i + 1) z e⟩
    rw [h2, ← h1, r.ints]
    rfl
end Sm

set_option Elab.async false
set_option linter.all false
set_option maxRecDepth 100000
set_option maxHeartbeats 4000000
namespace Sm
open PySem PySem.Spec PyProof.Rows L2 LamX
/-! ### min of a tuple of ints -/
section
variable {prog : Program} {w : World} {A : Around} {E : Value → Shared → Prop} {s : Shared} {l : Addr} {its : List Value} {ns : List Int} {Q : Value → Shared → Prop}
theorem min_intTup {xs : Array (Int × Tok)} (hh : A.handled = none) (hl : s.heap.IsTuple l (intItems xs)) (hne : 0 < xs.size)
    (h : ∀ v h' tk, (intItems xs)[argBest (fun i j => decide (numAt xs i < numAt xs j)) (xs.size - 1)]? = some v → (∀ b o, s.heap.get? b = some o → h'.get? b = some o) → Q v { s with heap := h', toks := tk }) :
    wpAny (model prog w) A (call (.builtin "min") [.ref l]) Q E s := by
  have hlt : l < s.heap.objs.size := by obtain ⟨_, e, _⟩ := hl; exact Heap.lt_size e
  refine call_min_walk (iter_intTup hl fun s₂ e st hfp hlI => ?_)
  subst e
  refine ⟨_, _, _, _, _, _, _, rfl, Walks.tuple (A := A.in1) hh _ l hlI (intItems xs), st, hfp, by simpa [intItems] using hne, CmpOf.ints_lt (numAt xs) (fun _ _ => intItems_at), fun v h' tk hP hk => ?_⟩
  exact h v h' tk (by simpa [intItems] using hP) (old_keptT hk)
theorem min_rawT (hh : A.handled = none) (hl : s.heap.IsTuple l its.toArray) (hi : IntsAre its ns) (hne : 0 < ns.length)
    (h : ∀ h' tk M t', (∀ b o, s.heap.get? b = some o → h'.get? b = some o) → M ∈ ns → (∀ a, a ∈ ns → M ≤ a) → Q (.int M t') { s with heap := h', toks := tk }) : wpAny (model prog w) A (call (.builtin "min") [.ref l]) Q E s := by
  obtain ⟨xs, e⟩ := hi.allInts.items
  have hn : numsOf (intItems xs).toList = ns := by rw [← e]; exact hi.numsOf
  rw [nums_intItems] at hn
  subst hn
  rw [e] at hl
  have hsz : 0 < xs.size := by simpa using hne
  refine min_intTup hh hl hsz fun v h' tk hv hk => ?_
  obtain ⟨t, rfl⟩ := intItems_at hv
  obtain ⟨h1, h2⟩ := argBest_lt (numAt xs) (xs.size - 1)
  refine h h' tk _ t hk ?_ fun a ha => ?_
  · rw [numAt_eq]; exact PySem.getD_mem (by rw [List.length_map, Array.length_toList]; omega)
  · obtain ⟨j, hj, rfl⟩ := mem_getD ha
    rw [List.length_map, Array.length_toList] at hj
    rw [← numAt_eq]; exact h2 j (by omega)
end
def rMinT (K : PySem.W.Frag) : List V → Hp → VK → Prop := fun vs H Q => ∃ (a : Addr) (ns : List Int), vs = [V.ref a] ∧ SqT K H a (ns.map V.int) ∧ 0 < ns.length ∧ ∀ m, m ∈ ns → (∀ y, y ∈ ns → m ≤ y) → Q (.int m) H
theorem cr_minT {X : Cx} (hc : X.calm = true) : CallR X (.builtin "min") (rMinT X.K) := by
  intro pins s σ H vs us Q I r h
  obtain ⟨a, ns, rfl, hs, hne, q⟩ := h
  obtain ⟨its, rv, hl, _⟩ := I.tuple hs
  rw [Vals.ref1 r]
  exact min_rawT (I.ok.hd hc) hl (rv.ints) hne fun h' tk m t' hk h1 h2 => ⟨.int _, H, I.kept hk, ⟨_, rfl⟩, q m h1 h2⟩
/-! ### f(e, ..) of an instance with its own __call__, within try: the slots as they are -/
def tCallOS (C : Addr) (sp : Sp) (E : L2.St → XK) (tf : TE) (t : TA) : TE := fun σ H Q => tf σ H fun y H1 => ∃ a, y = V.ref a ∧ t σ H1 fun vs H2 => (∃ dx fs, H2 a = some (.ins C dx fs)) ∧ sp (V.ref a :: vs) H2 Q (E σ)
section
variable {X : Cx} {CX : CXT} {k : Nat} {f C : Addr} {fd : FuncData} {ps : List Str} {sp : Sp} {E : L2.St → XK} {fe e : Expr} {es : List Expr} {tf : TE} {t : TA} {pos : Pos}
theorem pe_ownCallS (hf : PE X fe tf) (m : Spm X.K C "__call__" f) (fi : PySem.W.fnIn X.K f = true) (F : FnOk X.prog X.w X.K X.mg X.base CX k f fd ps sp) (hb : Binds X.K fd ps []) (hr : Room k X.A) (hx : ∀ σ, PassesAt CX X σ (E σ)) (ha : PA X (e :: es) t)
    (ht : eval (.Call fe (e :: es) [] pos) X.env = (do callWith pos (← eval fe X.env) [] (backTo pos (starEach (e :: es) X.env)) (backToKw pos (keywordEach [] X.env))) := by rfl)
    (he : starEach (e :: es) X.env = (false, eval e X.env) :: starEach es X.env := by rfl) (hpl : (backTo pos (starEach es X.env)).any (·.1) = false := by rfl) : PE X (.Call fe (e :: es) [] pos) (tCallOS C sp E tf t) := by
  refine ⟨fun pins s σ H Q I h => ?_⟩
  refine Call_ (thn (hf.run pins s σ H _ I h) fun u s1 ⟨y, H1, I1, ry, a, ey, q⟩ => ?_) ht
  subst ey
  obtain rfl : u = Value.ref a := ry
  refine StX.callO_with (thn (ha.run pos pins s1 σ H1 _ I1 q) fun us s2 ⟨vs, H2, I2, r, hi, q2⟩ => ?_) he hpl
  obtain ⟨ox, od, J, hd⟩ := StX.insC_at I2 (.inr hi)
  refine ⟨⟨C, ox, od, J, hd⟩, wpAny_call (PySem.W.kco_code I2.kIn J hd m.at_ m.fn fi ?_)⟩
  have r2 : Vals (.ref a :: vs) (.ref a :: us) := .cons rfl r
  have hl : (.ref a :: us).length = ps.length := by rw [← r2.length]; exact F.len _ _ _ _ q2
  have b := hb s2 (.ref a :: us) I2.kIn (by rw [List.append_nil]; exact hl)
  rw [List.append_nil] at b
  refine codeAny_mono (F.run X.A X.stack s2 H2 ⟨.ref a :: us, []⟩ (.ref a :: us) (.ref a :: vs) Q (E σ) hr I2.env0 b r2 q2) fun r s' hq => ?_
  cases r with
  | error e => exact hx σ pins H2 s2 e s' I2 hq
  | ok fl =>
    cases fl with
    | ret u => exact I2.after hq
    | next => exact False.elim hq
    | brk => exact False.elim hq
    | cont => exact False.elim hq
end
theorem kit_bi {K : PySem.W.Frag} {T : String} {C : Addr} {b : Bool} (h1 : PySem.W.isClsIn K C = true) (h2 : PySem.W.typeIn K (.ref C) = some (.type "type")) (h3 : PySem.W.subIn K (.type T) (.ref C) = some b) : PySem.W.kitOne K (.type T) (.ref C) = some b := by
  unfold PySem.W.kitOne
  have q : ((Value.type T) == (Value.ref C)) = false := beq_eq_false_iff_ne.mpr fun z => nomatch z
  rw [if_neg (by rw [q]; exact Bool.false_ne_true)]
  have h1' : (PySem.W.clsIn K C).isSome = true := h1
  have z : ((PySem.W.clsIn K C).isSome && PySem.W.typeIn K (.ref C) == some (.type "type")) = true := by rw [h1', h2] <;> rfl
  show (if ((PySem.W.clsIn K C).isSome && PySem.W.typeIn K (.ref C) == some (.type "type")) = true then PySem.W.subIn K (.type T) (.ref C) else none) = some b
  rw [if_pos z]
  exact h3
/-! ### f(lambda: .., e), e a name or a text -/
/-- an expression that leaves the heap as it is -/
structure Still (X : Cx) (e : Expr) (tv : L2.St → V → Prop) : Prop where
  run : ∀ (pins : List (Addr × Obj)) (s : Shared) (σ : L2.St) (H : Hp) (v : V) (E : Value → Shared → Prop) (Q : Value → Shared → Prop), Inv X pins σ H s → tv σ v → (∀ u tk, RelV v u → Q u { s with toks := tk }) → wpAny (model X.prog X.w) X.A (eval e X.env) Q E s
theorem still_name {X : Cx} {y : Str} {py : Pos} {j : Nat} (named : X.N[j]? = some y) (seen : Vis X.env.scope y) (hyd : (y == ("__debug__" : Str)) = false := by decide) (hycd : (y == ("__classdict__" : Str)) = false := by decide) : Still X (.Name y py) (fun σ v => σ[j]? = some (some v)) :=
  ⟨fun pins s σ H v E Q I hv h => ld_var I named seen hv (fun u r1 => h u s.toks r1) hyd hycd⟩
theorem still_str {X : Cx} {z : Str} {k : Nat} {py : Pos} : Still X (.Constant (.str z) k py) (fun _ v => v = .str z) :=
  ⟨fun pins s σ H v E Q I hv h => by subst hv; exact Calls.Constant_str (h _ _ ⟨_, rfl⟩)⟩
def tLam2E (T : List (Addr × Str)) (TT : V → (XK → Hp → VK → Prop) → Hp → VK → Prop) (t : XK → TE) (tv : L2.St → V → Prop) : TE := fun σ H Q => Tabs T H ∧ ∃ v, tv σ v ∧ ∀ H1, ExtN H H1 → Tabs T H1 → TT v (fun E H' Q' => t E σ H' Q') H1 Q
section
variable {X : Cx}
theorem pe_lamcall2E {T : List (Addr × Str)} {TT : V → (XK → Hp → VK → Prop) → Hp → VK → Prop} {x a b : Str} {g c P : Addr} {k : Nat} {pg : Arguments} {bg : List Stmt} {sg : Scope} {dV kV doc pm cdv ct oc : Value} {an od : Option Addr} {osl : Array (Option Value)} {Ng : List Str}
    {params : Arguments} {body e2 : Expr} {scope : Scope} {t : XK → TE} {tv : L2.St → V → Prop} {p lpos pos : Pos} (hg : Gl X x) (hm : X.mg x = some (.ref g)) (hk : PySem.W.keepIn X.K (.ref g) = true)
    (lk : X.K.lookup g = some ⟨oc, od, .func (PySem.W.fnOf x x pg bg sg dV kV doc pm an cdv ct), osl⟩) (hcg : PySem.W.codeIn X.K cdv x = true) (hb : L2.Binds X.K (PySem.W.fnOf x x pg bg sg dV kV doc pm an cdv ct) [a, b] []) (Sg : FnScope Ng [a, b] sg) (hNg : Ng[0]? = some a) (hva : Vis sg a)
    (hG : Gives2 X Ng x sg g cdv bg a (X.env.qual ++ "<lambda>") TT)
    (TB : TabB X.base X.mg c P) (hcode : X.env.code = .ref c) (hmT : (P, X.env.qual ++ "<lambda>") ∈ T) (hu : ∀ p ∈ T, p.1 = P → p.2 = X.env.qual ++ "<lambda>") (hr : Room (k + 2) X.A) (L : LamS X.env.scope scope) (hdef : defaultsOf params X.env = ([], []))
    (hbind : ∀ (q : Str) (cl : List (Str × Addr)) (pm cv ctv : Value), bindArgs (PySem.W.kla_fn "<lambda>" q params body scope cl pm cv ctv) ⟨[], []⟩ = pure [])
    (hbody : ∀ (A : Around) (outer : List Env) (s : Shared) (H : Hp) (E : XK) (f c' : Addr), Room k (A.deeper (lamEnv X scope s.heap.objs.size f c')) → PE (lamCx X A outer s H E scope f c') body (t E))
    (st : Still X e2 tv) (hs : ∀ ps : Pos, backTo ps (starEach [.Lambda params body scope lpos, e2] X.env) = backTo ps ((false, eval (.Lambda params body scope lpos) X.env) :: (false, eval e2 X.env) :: starEach [] X.env) := by intro _; rfl)
    (he : starEach [.Lambda params body scope lpos, e2] X.env = (false, eval (.Lambda params body scope lpos) X.env) :: starEach [e2] X.env := by rfl) (hpl : (backTo pos (starEach [e2] X.env)).any (·.1) = false := by rfl)
    (hdb : (x == ("__debug__" : Str)) = false := by decide) (hd : (a == ("__debug__" : Str)) = false := by decide) (hcd : (a == ("__classdict__" : Str)) = false := by decide) :
    PE X (.Call (.Name x p) [.Lambda params body scope lpos, e2] [] pos) (tLam2E T TT t tv) := by
  refine ⟨fun pins s σ H Q I h => ?_⟩
  obtain ⟨hT, v, hv, h⟩ := h
  refine wpAny_Call_Name_kw (ld_glob I hg hm (PySem.W.callWith_K (h₀ := X.base) I.ok.mod.kin hk ?_ he hpl) hdb)
  show wpAny _ _ (spliced (backTo pos (starEach [.Lambda params body scope lpos, e2] X.env))) _ _ s
  rw [hs]
  refine Calls.spliced_cons (lam_make2 I TB hcode hmT hu hT hdef (L.has I.ok) ?_)
  intro f c' pm' ctv H1 s' I1 eN T1 hf hfn hfr hco
  refine Calls.spliced_cons ?_
  show wpAny (model X.prog X.w) X.A (eval e2 X.env) _ _ s'
  refine st.run pins s' σ H1 v _ _ I1 hv fun u tk r1 => ?_
  have I2 : Inv X pins σ H1 { s' with toks := tk } := I1.tok tk
  refine Calls.spliced_nil ⟨I2.kIn, ?_⟩
  have ran : codeAny (model X.prog X.w) X.A (.call (.ref g) ⟨[.ref f, u], []⟩) (CR C8.CX0 X.stack X.prog X.w H1 { s' with toks := tk } Q C8.E0) { s' with toks := tk } := by
    refine run_ofS (N := Ng) (ps := [a, b]) (us := [.ref f, u]) (vs := [.ref f, v]) lk hcg Sg hr I2.env0 (hb { s' with toks := tk } [.ref f, u] I2.kIn rfl) (.cons rfl (.cons r1 .nil)) rfl fun room => ?_
    obtain ⟨t', got, fine⟩ := hG f c' { s' with toks := tk } H1 v Q (fun E H' Q' => t E σ H' Q') (fun W pn xe E p1 p2 σ0 tk' hW => pe_actS (i := 0) σ0 I2 L hf hfn hfr (hbind _ _ _ _ _) tk' hW room (fun A outer s H r2 => hbody A outer s H E f c' r2) hNg hva hd hcd) hco (h H1 eN T1)
    exact ⟨t', got.nox, fine⟩
  refine wpAny_call (codeAny_mono ran ?_)
  rintro (e | fl) s2 hq
  · exact (show False from hq).elim
  match fl, hq with
  | .ret u, hq => exact I2.after hq
  | .next, hq => exact False.elim hq
  | .brk, hq => exact False.elim hq
  | .cont, hq => exact False.elim hq
end
end Sm

set_option maxHeartbeats 4000000
namespace Sm
/-! offers, boards, and what leads where -/
structure Of where
  a : Nat
  x : Int
  b : Nat
  y : Int
def Of.ns (o : Of) : List Int := [(o.a : Int), o.x, (o.b : Int), o.y]
structure OfOk (k : Nat) (o : Of) : Prop where
  a : o.a < k
  b : o.b < k
  ne : o.a ≠ o.b
  x0 : 1 ≤ o.x
  x1 : o.x ≤ 30
  y0 : 0 ≤ o.y
  y1 : o.y ≤ 30
def Edge (L : List Of) (a b : Nat) : Prop := ∃ o ∈ L, o.a = a ∧ o.b = b ∧ 0 < o.y
def Rn (L : List Of) (s : Nat) : Nat → Nat → Prop
  | 0, c => c = s
  | n + 1, c => Rn L s n c ∨ ∃ b, Rn L s n b ∧ Edge L b c
def Lead (L : List Of) (s c : Nat) : Prop := ∃ n, Rn L s n c
section
variable {L : List Of} {s c d k : Nat}
theorem Rn.up {n m : Nat} (h : n ≤ m) (r : Rn L s n c) : Rn L s m c := by
  induction m with
  | zero => rw [show n = 0 by omega] at r; exact r
  | succ m ih =>
    by_cases q : n = m + 1
    · rw [← q]; exact r
    · exact .inl (ih (by omega))
theorem Lead.self : Lead L s s := ⟨0, rfl⟩
theorem Lead.step (h : Lead L s c) (e : Edge L c d) : Lead L s d := by
  obtain ⟨n, r⟩ := h
  exact ⟨n + 1, .inr ⟨c, r, e⟩⟩
theorem Lead.closed {S : Nat → Prop} (h0 : S s) (hs : ∀ a b, S a → Edge L a b → S b) (h : Lead L s c) : S c := by
  obtain ⟨n, r⟩ := h
  induction n generalizing c with
  | zero => rw [show c = s from r]; exact h0
  | succ n ih =>
    rcases r with r | ⟨b, r, e⟩
    · exact ih r
    · exact hs _ _ (ih r) e
theorem Lead.trans (h1 : Lead L s c) (h2 : Lead L c d) : Lead L s d := h2.closed (S := fun x => Lead L s x) h1 fun _ _ h e => h.step e
theorem filter_less {α : Type} {p q : α → Bool} : ∀ {l : List α}, (∀ x ∈ l, p x = true → q x = true) → (∃ x ∈ l, q x = true ∧ p x = false) → (l.filter p).length + 1 ≤ (l.filter q).length
  | [], _, h => by obtain ⟨_, h, _⟩ := h; cases h
  | a :: l, h, ⟨x, hx, h1, h2⟩ => by
    have le : (l.filter p).length ≤ (l.filter q).length := by
      clear hx h1 h2
      induction l with
      | nil => exact Nat.le_refl _
      | cons b l ih =>
        have i := ih fun x hx => by
          rcases List.mem_cons.mp hx with e | e
          · exact h x (by rw [e]; exact List.mem_cons_self)
          · exact h x (List.mem_cons_of_mem _ (List.mem_cons_of_mem _ e))
        have hb := h b (List.mem_cons_of_mem _ List.mem_cons_self)
        rw [List.filter_cons, List.filter_cons]
        cases e : p b with
        | true => rw [if_pos rfl, if_pos (hb e)]; simp; exact i
        | false =>
          rw [if_neg Bool.false_ne_true]
          split
          · simp; omega
          · exact i
    rw [List.filter_cons, List.filter_cons]
    rcases List.mem_cons.mp hx with e | e
    · subst e
      rw [h1, h2, if_neg Bool.false_ne_true, if_pos rfl]
      simp
      exact le
    · have i := filter_less (fun x hx => h x (List.mem_cons_of_mem _ hx)) ⟨x, e, h1, h2⟩
      have ha := h a List.mem_cons_self
      cases e : p a with
      | true => rw [if_pos rfl, if_pos (ha e)]; simp; omega
      | false =>
        rw [if_neg Bool.false_ne_true]
        split
        · simp; omega
        · exact i
noncomputable def cnt (L : List Of) (s k n : Nat) : Nat := ((List.range k).filter fun c => @decide (Rn L s n c) (Classical.propDecidable _)).length
theorem cdec {p : Prop} : (@decide p (Classical.propDecidable _)) = true ↔ p := @decide_eq_true_iff p (Classical.propDecidable _)
theorem cdecf {p : Prop} : (@decide p (Classical.propDecidable _)) = false ↔ ¬ p := @decide_eq_false_iff_not p (Classical.propDecidable _)
theorem Rn.lt {n : Nat} (hL : ∀ o ∈ L, OfOk k o) (hs : s < k) (r : Rn L s n c) : c < k := by
  induction n generalizing c with
  | zero => rw [show c = s from r]; exact hs
  | succ n ih =>
    rcases r with r | ⟨b, r, o, ho, _, e, _⟩
    · exact ih r
    · rw [← e]; exact (hL o ho).b
theorem Lead.lt (hL : ∀ o ∈ L, OfOk k o) (hs : s < k) (h : Lead L s c) : c < k := by
  obtain ⟨n, r⟩ := h
  exact r.lt hL hs
theorem Lead.to (hL : ∀ o ∈ L, OfOk k o) (hs : s < k) (h : Lead L s c) : Rn L s k c := by
  have key : ∀ n, (∃ m, m ≤ n ∧ ∀ c, Rn L s (m + 1) c → Rn L s m c) ∨ n + 1 ≤ cnt L s k n := by
    intro n
    induction n with
    | zero =>
      right
      have : 0 < cnt L s k 0 := List.length_pos_of_mem (a := s) (List.mem_filter.mpr ⟨List.mem_range.mpr hs, cdec.mpr rfl⟩)
      omega
    | succ n ih =>
      rcases ih with ⟨m, h1, h2⟩ | ih
      · exact .inl ⟨m, by omega, h2⟩
      · rcases Classical.em (∀ c, Rn L s (n + 1) c → Rn L s n c) with q | q
        · exact .inl ⟨n, by omega, q⟩
        · right
          obtain ⟨c, hc⟩ := Classical.not_forall.mp q
          obtain ⟨h1, h2⟩ := Classical.not_imp.mp hc
          have := filter_less (l := List.range k) (p := fun c => @decide (Rn L s n c) (Classical.propDecidable _)) (q := fun c => @decide (Rn L s (n + 1) c) (Classical.propDecidable _))
            (fun x _ hx => cdec.mpr (.inl (cdec.mp hx))) ⟨c, List.mem_range.mpr (h1.lt hL hs), cdec.mpr h1, cdecf.mpr h2⟩
          unfold cnt at ih ⊢
          omega
  rcases key k with ⟨m, h1, h2⟩ | q
  · refine Rn.up h1 ?_
    exact h.closed (S := fun x => Rn L s m x) (Rn.up (Nat.zero_le _) rfl) fun a b ha e => h2 b (.inr ⟨a, ha, e⟩)
  · have : cnt L s k k ≤ k := by
      unfold cnt
      exact Nat.le_trans (List.length_filter_le ..) (by rw [List.length_range]; exact Nat.le_refl _)
    omega
end
/-! sorted lists -/
theorem srt_eq {α : Type} {lt : α → α → Prop} (irr : ∀ x, ¬ lt x x) (tr : ∀ x y z, lt x y → lt y z → lt x z) : ∀ {l m : List α}, l.Pairwise lt → m.Pairwise lt → (∀ x, x ∈ l ↔ x ∈ m) → l = m
  | [], [], _, _, _ => rfl
  | [], b :: m, _, _, h => by have := (h b).mpr List.mem_cons_self; cases this
  | a :: l, [], _, _, h => by have := (h a).mp List.mem_cons_self; cases this
  | a :: l, b :: m, h1, h2, h => by
    obtain ⟨p1, q1⟩ := List.pairwise_cons.mp h1
    obtain ⟨p2, q2⟩ := List.pairwise_cons.mp h2
    have e : a = b := by
      rcases List.mem_cons.mp ((h a).mp List.mem_cons_self) with e | e
      · exact e
      · rcases List.mem_cons.mp ((h b).mpr List.mem_cons_self) with f | f
        · exact f.symm
        · exact (irr a (tr _ _ _ (p1 b f) (p2 a e))).elim
    subst e
    rw [srt_eq irr tr q1 q2 fun x => ⟨fun hx => ?_, fun hx => ?_⟩]
    · rcases List.mem_cons.mp ((h x).mp (List.mem_cons_of_mem _ hx)) with e | e
      · subst e; exact (irr _ (p1 _ hx)).elim
      · exact e
    · rcases List.mem_cons.mp ((h x).mpr (List.mem_cons_of_mem _ hx)) with e | e
      · subst e; exact (irr _ (p2 _ hx)).elim
      · exact e
theorem range_lt (k : Nat) : (List.range k).Pairwise (· < ·) := List.pairwise_lt_range
noncomputable def leadsL (L : List Of) (k s : Nat) : List Nat := (List.range k).filter fun c => @decide (Lead L s c) (Classical.propDecidable _)
noncomputable def backs (L : List Of) (k s : Nat) : List Nat := (List.range k).filter fun c => @decide (Lead L s c ∧ Lead L c s) (Classical.propDecidable _)
theorem mem_leads {L : List Of} {k s c : Nat} : c ∈ leadsL L k s ↔ c < k ∧ Lead L s c := by
  unfold leadsL
  rw [List.mem_filter, List.mem_range, cdec]
theorem mem_backs {L : List Of} {k s c : Nat} : c ∈ backs L k s ↔ c < k ∧ Lead L s c ∧ Lead L c s := by
  unfold backs
  rw [List.mem_filter, List.mem_range, cdec]
theorem backs_same {L : List Of} {k s c : Nat} (h : c ∈ backs L k s) : backs L k c = backs L k s := by
  obtain ⟨h0, h1, h2⟩ := mem_backs.mp h
  unfold backs
  refine List.filter_congr fun x _ => ?_
  have : (Lead L c x ∧ Lead L x c) ↔ (Lead L s x ∧ Lead L x s) := ⟨fun ⟨a, b⟩ => ⟨h1.trans a, b.trans h2⟩, fun ⟨a, b⟩ => ⟨h2.trans a, b.trans h1⟩⟩
  rw [Bool.eq_iff_iff, cdec, cdec]
  exact this
theorem backs_self {L : List Of} {k s : Nat} (h : s < k) : s ∈ backs L k s := mem_backs.mpr ⟨h, .self, .self⟩
theorem leads_lt (L : List Of) (k s : Nat) : (leadsL L k s).Pairwise (· < ·) := (range_lt k).filter _
theorem backs_lt (L : List Of) (k s : Nat) : (backs L k s).Pairwise (· < ·) := (range_lt k).filter _
theorem backs_len (L : List Of) (k s : Nat) : (backs L k s).length ≤ k := Nat.le_trans (List.length_filter_le ..) (by rw [List.length_range]; exact Nat.le_refl _)
theorem leads_len (L : List Of) (k s : Nat) : (leadsL L k s).length ≤ k := Nat.le_trans (List.length_filter_le ..) (by rw [List.length_range]; exact Nat.le_refl _)
theorem backs_filter (L : List Of) (k s : Nat) : (leadsL L k s).filter (fun c => @decide (Lead L c s) (Classical.propDecidable _)) = backs L k s := by
  unfold leadsL backs
  rw [List.filter_filter]
  refine List.filter_congr fun x _ => ?_
  rw [Bool.eq_iff_iff, Bool.and_eq_true, cdec, cdec, cdec]
  exact ⟨fun ⟨a, b⟩ => ⟨b, a⟩, fun ⟨a, b⟩ => ⟨b, a⟩⟩
theorem nd_len {α : Type} [DecidableEq α] : ∀ {l m : List α}, l.Nodup → (∀ x, x ∈ l → x ∈ m) → l.length ≤ m.length
  | [], _, _, _ => Nat.zero_le _
  | a :: l, m, hn, hs => by
    have hm : a ∈ m := hs a List.mem_cons_self
    obtain ⟨n1, n2⟩ := List.nodup_cons.mp hn
    have ih := nd_len (m := m.erase a) n2 fun x hx => (List.mem_erase_of_ne (by rintro rfl; exact n1 hx)).mpr (hs x (List.mem_cons_of_mem _ hx))
    rw [List.length_erase_of_mem hm] at ih
    have := List.length_pos_of_mem hm
    simp only [List.length_cons]
    omega
/-- numbers as integers -/
abbrev ni (l : List Nat) : List Int := l.map fun (c : Nat) => (c : Int)
theorem mem_ni {l : List Nat} {c : Nat} : (c : Int) ∈ ni l ↔ c ∈ l := by
  constructor
  · intro h
    obtain ⟨d, hd, e⟩ := List.mem_map.mp h
    rw [← Int.ofNat.inj e]
    exact hd
  · intro h
    exact List.mem_map.mpr ⟨c, h, rfl⟩
theorem ni_sorted {l : List Nat} (h : l.Pairwise (· < ·)) : (ni l).Pairwise (· < ·) := by
  rw [List.pairwise_map]
  exact h.imp fun q => Int.ofNat_lt.mpr q
theorem ni_nodup {l : List Nat} (h : l.Nodup) : (ni l).Nodup := by
  unfold List.Nodup at h ⊢
  rw [List.pairwise_map]
  exact h.imp fun q e => q (Int.ofNat.inj e)
/-- a sorted arrangement of given numbers -/
theorem ni_sort {F l : List Nat} {ys : List Int} (pm : ys.Perm (ni F)) (le : ys.Pairwise (· ≤ ·)) (nd : F.Nodup) (up : l.Pairwise (· < ·)) (h : ∀ c, c ∈ F ↔ c ∈ l) : ys = ni l := by
  have ny : ys.Nodup := (pm.nodup_iff).mpr (ni_nodup nd)
  have lt : ys.Pairwise (· < ·) := by
    have both := List.Pairwise.and le ny
    exact both.imp fun ⟨a, b⟩ => by omega
  refine srt_eq (lt := fun a b : Int => a < b) (fun x => Int.lt_irrefl x) (fun x y z => Int.lt_trans) lt (ni_sorted up) fun x => ?_
  rw [pm.mem_iff]
  constructor
  · intro hx
    obtain ⟨c, hc, rfl⟩ := List.mem_map.mp hx
    exact mem_ni.mpr ((h c).mp hc)
  · intro hx
    obtain ⟨c, hc, rfl⟩ := List.mem_map.mp hx
    exact mem_ni.mpr ((h c).mpr hc)
end Sm

set_option maxHeartbeats 4000000
namespace Sm
/-! ways: what they need and change -/
structure Tl where
  n : Nat → Int
  c : Nat → Int
def Tl.zero : Tl := ⟨fun _ => 0, fun _ => 0⟩
def Tl.seq (t u : Tl) : Tl := ⟨fun k => max (t.n k) (u.n k - t.c k), fun k => t.c k + u.c k⟩
def Tl.rnd (t : Tl) (m : Int) : Tl := ⟨fun k => max (t.n k) (t.n k - (m - 1) * t.c k), fun k => m * t.c k⟩
def n1 (o : Of) (k : Nat) : Int := if k = o.a then o.x else 0
def c1 (o : Of) (k : Nat) : Int := if k = o.b then o.y else if k = o.a then -o.x else 0
def runT (o : Of) (m : Int) : Tl := ⟨fun k => if k = o.a then m * o.x else 0, fun k => if k = o.b then m * o.y else if k = o.a then -m * o.x else 0⟩
def ofI (L : List Of) (i : Nat) : Of := L.getD i ⟨0, 0, 0, 0⟩
theorem ofI_at {L : List Of} {i : Nat} {o : Of} (h : L[i]? = some o) : ofI L i = o := by
  unfold ofI
  rw [List.getD_eq_getElem?_getD, h]
  rfl
theorem ofI_mem {L : List Of} {i : Nat} (h : i < L.length) : ofI L i ∈ L := by
  unfold ofI
  rw [List.getD_eq_getElem?_getD, List.getElem?_eq_getElem h]
  exact List.getElem_mem h
inductive St where
  | run (i : Nat) (m : Int)
  | rnd (rs : List (Nat × Int)) (m : Int)
def runsT (L : List Of) (rs : List (Nat × Int)) : Tl := rs.foldl (fun t r => t.seq (runT (ofI L r.1) r.2)) Tl.zero
def stT (L : List Of) : St → Tl
  | .run i m => runT (ofI L i) m
  | .rnd rs m => (runsT L rs).rnd m
def wayT (L : List Of) (ss : List St) : Tl := ss.foldl (fun t s => t.seq (stT L s)) Tl.zero
/-- a list of runs as a way -/
def asWay (rs : List (Nat × Int)) : List St := rs.map fun r => .run r.1 r.2
theorem asWay_T (L : List Of) (rs : List (Nat × Int)) : wayT L (asWay rs) = runsT L rs := by
  unfold wayT asWay runsT
  rw [List.foldl_map]
  rfl
theorem wayT_take {L : List Of} {ss : List St} {j : Nat} {s : St} (h : ss[j]? = some s) : wayT L (ss.take (j + 1)) = (wayT L (ss.take j)).seq (stT L s) := by
  unfold wayT
  rw [List.take_add_one, h, List.foldl_append]
  rfl
/-! uses, one after another -/
def bn : List Of → Nat → Int
  | [], _ => 0
  | o :: U, k => max (n1 o k) (bn U k - c1 o k)
def bc : List Of → Nat → Int
  | [], _ => 0
  | o :: U, k => c1 o k + bc U k
theorem bn_pos (U : List Of) (h : ∀ o ∈ U, 0 ≤ o.x) (k : Nat) : 0 ≤ bn U k := by
  cases U with
  | nil => exact Int.le_refl _
  | cons o U =>
    have := h o List.mem_cons_self
    unfold bn n1
    split <;> omega
theorem bc_app (U W : List Of) (k : Nat) : bc (U ++ W) k = bc U k + bc W k := by
  induction U with
  | nil => show bc W k = 0 + bc W k; omega
  | cons o U ih =>
    show c1 o k + bc (U ++ W) k = c1 o k + bc U k + bc W k
    omega
theorem bn_app {U W : List Of} (hW : ∀ o ∈ W, 0 ≤ o.x) (k : Nat) : bn (U ++ W) k = max (bn U k) (bn W k - bc U k) := by
  induction U with
  | nil =>
    have := bn_pos W hW k
    show bn W k = max 0 (bn W k - 0)
    omega
  | cons o U ih =>
    show max (n1 o k) (bn (U ++ W) k - c1 o k) = max (max (n1 o k) (bn U k - c1 o k)) (bn W k - (c1 o k + bc U k))
    rw [ih]
    omega
def reps (m : Nat) (U : List Of) : List Of := (List.replicate m U).flatten
theorem reps_x {m : Nat} {U : List Of} (h : ∀ o ∈ U, 0 ≤ o.x) : ∀ o ∈ reps m U, 0 ≤ o.x := fun o ho => by
  obtain ⟨l, hl, hl2⟩ := List.mem_flatten.mp ho
  rw [List.eq_of_mem_replicate hl] at hl2
  exact h o hl2
theorem reps_succ (m : Nat) (U : List Of) : reps (m + 1) U = U ++ reps m U := by
  unfold reps
  rw [List.replicate_succ, List.flatten_cons]
theorem bc_reps (m : Nat) (U : List Of) (k : Nat) : bc (reps m U) k = (m : Int) * bc U k := by
  induction m with
  | zero => simp [reps, bc]
  | succ m ih =>
    rw [reps_succ, bc_app, ih, Int.natCast_add, Int.add_mul]
    simp
    omega
theorem bn_reps {U : List Of} (h : ∀ o ∈ U, 0 ≤ o.x) (m : Nat) (k : Nat) : bn (reps (m + 1) U) k = max (bn U k) (bn U k - (m : Int) * bc U k) := by
  induction m with
  | zero =>
    rw [reps_succ]
    show bn (U ++ reps 0 U) k = _
    rw [show reps 0 U = [] from rfl, List.append_nil]
    simp
  | succ m ih =>
    rw [reps_succ, bn_app (reps_x h), ih]
    have p := bn_pos U h k
    have e : ((m + 1 : Nat) : Int) * bc U k = (m : Int) * bc U k + bc U k := by
      rw [Int.natCast_add, Int.add_mul]
      simp
    rw [e]
    rcases Int.le_total 0 (bc U k) with q | q
    · have : 0 ≤ (m : Int) * bc U k := Int.mul_nonneg (by omega) q
      omega
    · have : (m : Int) * bc U k ≤ 0 := Int.mul_nonpos_of_nonneg_of_nonpos (by omega) q
      omega
/-- what a list of uses needs and changes -/
def useT (U : List Of) : Tl := ⟨bn U, bc U⟩
theorem useT_app {U W : List Of} (hW : ∀ o ∈ W, 0 ≤ o.x) : useT (U ++ W) = (useT U).seq (useT W) := by
  unfold useT Tl.seq
  congr 1
  · exact funext fun k => bn_app hW k
  · exact funext fun k => bc_app U W k
theorem useT_reps {U : List Of} (h : ∀ o ∈ U, 0 ≤ o.x) {m : Nat} (m1 : 1 ≤ m) : useT (reps m U) = (useT U).rnd (m : Int) := by
  obtain ⟨j, rfl⟩ : ∃ j, m = j + 1 := ⟨m - 1, by omega⟩
  unfold useT Tl.rnd
  congr 1
  · refine funext fun k => ?_
    rw [bn_reps h, show ((j + 1 : Nat) : Int) - 1 = (j : Int) by omega]
  · exact funext fun k => bc_reps (j + 1) U k
theorem useT_run {o : Of} (x0 : 0 ≤ o.x) (y0 : 0 ≤ o.y) (ne : o.a ≠ o.b) {m : Nat} (m1 : 1 ≤ m) : useT (reps m [o]) = runT o (m : Int) := by
  rw [useT_reps (fun o' h => by rw [List.mem_singleton.mp h]; exact x0) m1]
  unfold useT Tl.rnd runT
  congr 1
  · refine funext fun k => ?_
    show max (max (n1 o k) (0 - c1 o k)) (max (n1 o k) (0 - c1 o k) - ((m : Int) - 1) * (c1 o k + 0)) = if k = o.a then (m : Int) * o.x else 0
    unfold n1 c1
    by_cases ha : k = o.a
    · have hb : k ≠ o.b := by rw [ha]; exact ne
      rw [if_pos ha, if_neg hb, if_pos ha, if_pos ha, Int.add_zero, Int.mul_neg, Int.sub_mul, Int.one_mul]
      have : o.x ≤ (m : Int) * o.x := by
        have := Int.mul_le_mul_of_nonneg_right (show (1 : Int) ≤ (m : Int) by omega) x0
        omega
      omega
    · by_cases hb : k = o.b
      · rw [if_neg ha, if_pos hb, if_neg ha, Int.add_zero]
        have : 0 ≤ ((m : Int) - 1) * o.y := Int.mul_nonneg (by omega) y0
        omega
      · rw [if_neg ha, if_neg hb, if_neg ha, if_neg ha]
        simp
  · refine funext fun k => ?_
    show (m : Int) * (c1 o k + 0) = if k = o.b then (m : Int) * o.y else if k = o.a then -(m : Int) * o.x else 0
    unfold c1
    rw [Int.add_zero]
    by_cases hb : k = o.b
    · rw [if_pos hb, if_pos hb]
    · rw [if_neg hb, if_neg hb]
      by_cases ha : k = o.a
      · rw [if_pos ha, if_pos ha, Int.mul_neg, Int.neg_mul]
      · rw [if_neg ha, if_neg ha, Int.mul_zero]
/-! the uses of a way -/
def runI (r : Nat × Int) : List Nat := List.replicate r.2.toNat r.1
def runsI (rs : List (Nat × Int)) : List Nat := rs.flatMap runI
def stI : St → List Nat
  | .run i m => runI (i, m)
  | .rnd rs m => (List.replicate m.toNat (runsI rs)).flatten
def wayI (ss : List St) : List Nat := ss.flatMap stI
def us (L : List Of) (I : List Nat) : List Of := I.map (ofI L)
/-- a run, a step, within the board -/
def RunOk (L : List Of) (r : Nat × Int) : Prop := r.1 < L.length ∧ 1 ≤ r.2
def StOk (L : List Of) : St → Prop
  | .run i m => RunOk L (i, m)
  | .rnd rs m => (∀ r ∈ rs, RunOk L r) ∧ 1 ≤ m
section
variable {k : Nat} {L : List Of} (ok : ∀ o ∈ L, OfOk k o)
include ok
theorem us_x {I : List Nat} (h : ∀ i ∈ I, i < L.length) : ∀ o ∈ us L I, 0 ≤ o.x := fun o ho => by
  obtain ⟨i, hi, rfl⟩ := List.mem_map.mp ho
  have := (ok _ (ofI_mem (h i hi))).x0
  omega
theorem us_run {r : Nat × Int} (h : RunOk L r) : useT (us L (runI r)) = runT (ofI L r.1) r.2 ∧ ∀ i ∈ runI r, i < L.length := by
  have o := ok _ (ofI_mem h.1)
  have x0 := o.x0
  have m1 := h.2
  refine ⟨?_, fun i hi => by rw [List.eq_of_mem_replicate hi]; exact h.1⟩
  have e : us L (runI r) = reps r.2.toNat [ofI L r.1] := by
    unfold us runI reps
    rw [List.map_replicate, List.flatten_replicate_singleton]
  rw [e, useT_run (by omega) o.y0 o.ne (show 1 ≤ r.2.toNat by omega), Int.toNat_of_nonneg (by omega)]
theorem us_runs : ∀ {rs : List (Nat × Int)}, (∀ r ∈ rs, RunOk L r) → useT (us L (runsI rs)) = runsT L rs ∧ ∀ i ∈ runsI rs, i < L.length := by
  suffices h : ∀ (rs : List (Nat × Int)) (I : List Nat) (t : Tl), (∀ r ∈ rs, RunOk L r) → useT (us L I) = t → (∀ i ∈ I, i < L.length) → useT (us L (I ++ runsI rs)) = rs.foldl (fun t r => t.seq (runT (ofI L r.1) r.2)) t ∧ ∀ i ∈ I ++ runsI rs, i < L.length by
    intro rs hr
    exact h rs [] Tl.zero hr rfl fun i hi => nomatch hi
  intro rs
  induction rs with
  | nil =>
    intro I t _ e hI
    refine ⟨?_, fun i hi => ?_⟩
    · show useT (us L (I ++ [])) = t
      rw [List.append_nil]
      exact e
    · rw [show runsI [] = [] from rfl, List.append_nil] at hi
      exact hI i hi
  | cons r rs ih =>
    intro I t hr e hI
    obtain ⟨e1, h1⟩ := us_run ok (hr r List.mem_cons_self)
    have step := ih (I ++ runI r) (t.seq (runT (ofI L r.1) r.2)) (fun r' h => hr r' (List.mem_cons_of_mem _ h)) (by
      rw [show us L (I ++ runI r) = us L I ++ us L (runI r) from List.map_append, useT_app (us_x ok h1), e, e1]) (fun i hi => by
      rcases List.mem_append.mp hi with hi | hi
      · exact hI i hi
      · exact h1 i hi)
    rw [List.append_assoc] at step
    exact step
theorem us_st {s : St} (h : StOk L s) : useT (us L (stI s)) = stT L s ∧ ∀ i ∈ stI s, i < L.length := by
  match s, h with
  | .run i m, h => exact us_run ok h
  | .rnd rs m, ⟨h, m1⟩ =>
    obtain ⟨e, hi⟩ := us_runs ok h
    refine ⟨?_, fun i hi' => ?_⟩
    · have e2 : us L (stI (.rnd rs m)) = reps m.toNat (us L (runsI rs)) := by
        show ((List.replicate m.toNat (runsI rs)).flatten).map (ofI L) = _
        rw [List.map_flatten, List.map_replicate]
        rfl
      rw [e2, useT_reps (us_x ok hi) (show 1 ≤ m.toNat by omega), e, Int.toNat_of_nonneg (by omega)]
      rfl
    · obtain ⟨l, hl, hl2⟩ := List.mem_flatten.mp hi'
      rw [List.eq_of_mem_replicate hl] at hl2
      exact hi i hl2
theorem us_way : ∀ {ss : List St}, (∀ s ∈ ss, StOk L s) → useT (us L (wayI ss)) = wayT L ss ∧ ∀ i ∈ wayI ss, i < L.length := by
  suffices h : ∀ (ss : List St) (I : List Nat) (t : Tl), (∀ s ∈ ss, StOk L s) → useT (us L I) = t → (∀ i ∈ I, i < L.length) → useT (us L (I ++ wayI ss)) = ss.foldl (fun t s => t.seq (stT L s)) t ∧ ∀ i ∈ I ++ wayI ss, i < L.length by
    intro ss hr
    exact h ss [] Tl.zero hr rfl fun i hi => nomatch hi
  intro ss
  induction ss with
  | nil =>
    intro I t _ e hI
    refine ⟨?_, fun i hi => ?_⟩
    · show useT (us L (I ++ [])) = t
      rw [List.append_nil]
      exact e
    · rw [show wayI [] = [] from rfl, List.append_nil] at hi
      exact hI i hi
  | cons s ss ih =>
    intro I t hr e hI
    obtain ⟨e1, h1⟩ := us_st ok (hr s List.mem_cons_self)
    have step := ih (I ++ stI s) (t.seq (stT L s)) (fun r' h => hr r' (List.mem_cons_of_mem _ h)) (by
      rw [show us L (I ++ stI s) = us L I ++ us L (stI s) from List.map_append, useT_app (us_x ok h1), e, e1]) (fun i hi => by
      rcases List.mem_append.mp hi with hi | hi
      · exact hI i hi
      · exact h1 i hi)
    rw [List.append_assoc] at step
    exact step
end
/-- amounts of the kinds as a list -/
def vec (k : Nat) (f : Nat → Int) : List Int := (List.range k).map f
theorem vec_len (k : Nat) (f : Nat → Int) : (vec k f).length = k := by
  unfold vec
  rw [List.length_map, List.length_range]
theorem vec_get {k i : Nat} {f : Nat → Int} (h : i < k) : (vec k f)[i]? = some (f i) := by
  unfold vec
  rw [List.getElem?_map, List.getElem?_range h]
  rfl
theorem vec_set {k i : Nat} {f g : Nat → Int} {v : Int} (h : g i = v) (hg : ∀ j, j ≠ i → g j = f j) : (vec k f).set i v = vec k g := by
  refine List.ext_getElem? fun j => ?_
  rw [List.getElem?_set]
  by_cases e : i = j
  · subst e
    rw [if_pos rfl]
    by_cases l : i < k
    · rw [vec_len, if_pos l, vec_get l, h]
    · rw [vec_len, if_neg l, List.getElem?_eq_none (by rw [vec_len]; omega)]
  · rw [if_neg e]
    by_cases l : j < k
    · rw [vec_get l, vec_get l, hg j (Ne.symm e)]
    · rw [List.getElem?_eq_none (by rw [vec_len]; omega), List.getElem?_eq_none (by rw [vec_len]; omega)]
theorem vec_rep (k : Nat) : List.replicate k (0 : Int) = vec k fun _ => 0 := by
  refine List.ext_getElem? fun j => ?_
  by_cases l : j < k
  · rw [vec_get l, List.getElem?_replicate, if_pos l]
  · rw [List.getElem?_eq_none (by rw [List.length_replicate]; omega), List.getElem?_eq_none (by rw [vec_len]; omega)]
theorem vec_succ (k : Nat) (f : Nat → Int) : vec (k + 1) f = vec k f ++ [f k] := by
  unfold vec
  rw [List.range_succ, List.map_append]
  rfl
end Sm

set_option Elab.async false
set_option linter.all false
set_option maxRecDepth 100000
set_option maxHeartbeats 4000000
namespace Sm
open PySem PySem.Spec PyProof.Rows L2
theorem ints_lay : ∀ t : List Int, PyData.canLayAll0 (t.map PyData.int) = true
  | [] => rfl
  | i :: t => by simp [PyData.canLayAll0, PyData.canLay0, ints_lay t]
theorem depth_int : ∀ t : List Int, PyData.depthAll (t.map PyData.int) ≤ 1
  | [] => by simp [PyData.depthAll]
  | i :: t => by
    have := depth_int t
    simp only [List.map_cons, PyData.depthAll, PyData.depth]
    omega
theorem lst_shaped (t : List Int) : SeqAt.shaped (.list (t.map PyData.int)) = true := by
  have d := depth_int t
  have d2 : PyData.depth (.list (t.map PyData.int)) ≤ 64 := by
    simp only [PyData.depth]
    omega
  unfold SeqAt.shaped
  rw [show PyData.canLay0 (.list (t.map PyData.int)) = true by simp only [PyData.canLay0, ints_lay], decide_eq_true d2]
  rfl
theorem tup_shaped (t : List Int) : SeqAt.shaped (.tuple (t.map PyData.int)) = true := by
  have d := depth_int t
  have d2 : PyData.depth (.tuple (t.map PyData.int)) ≤ 64 := by
    simp only [PyData.depth]
    omega
  unfold SeqAt.shaped
  rw [show PyData.canLay0 (.tuple (t.map PyData.int)) = true by simp only [PyData.canLay0, ints_lay], decide_eq_true d2]
  rfl
theorem eqv_nil (l : List Int) : PyData.eqv (.list (l.map PyData.int)) (.list []) = decide (l = []) := by
  cases l with
  | nil => rfl
  | cons a l => simp [PyData.eqv, PyData.eqvAll]
theorem no_part {σ : L2.St} {H : Hp} {Q : Option Int → Hp → Prop} (h : Q none H) : tNoPart σ H Q := h
theorem pickI (L : List Int) {r : Int} (h0 : 0 ≤ r) (h1 : r < (L.length : Int)) : ∃ z ∈ L, (L.map V.int)[r.toNat]? = some (.int z) := by
  have q : r.toNat < L.length := by omega
  refine ⟨L[r.toNat], List.getElem_mem q, ?_⟩
  rw [List.getElem?_map, List.getElem?_eq_getElem q]
  rfl
theorem cut_from {xs : List V} {n : Nat} : cutV xs (some (n : Int)) none = xs.drop n := by
  unfold cutV
  rw [HT.sIx_none, HT.sIx_nat]
  rcases Nat.le_total n xs.length with h | h
  · rw [Nat.min_eq_left h]
    exact List.take_of_length_le (by rw [List.length_drop]; omega)
  · rw [Nat.min_eq_right h, List.drop_length, List.drop_eq_nil_of_le h, List.take_nil]
theorem eqv_selfT (t : List Int) : PyData.eqv (.tuple (t.map PyData.int)) (.tuple (t.map PyData.int)) = true := SeqAt.eqv_refl _ (SeqAt.canLay_of_shaped (tup_shaped t))
theorem dp_tup {K : PySem.W.Frag} {H : Hp} {q : Addr} {t : List Int} (h : H q = some (.tup (t.map V.int))) : Dp K H (.ref q) (.tuple (t.map PyData.int)) := .tup (SqT.of h) (dp_ints t)
theorem vec_congr {k : Nat} {f g : Nat → Int} (h : ∀ i, i < k → f i = g i) : vec k f = vec k g := List.map_congr_left fun i hi => h i (List.mem_range.mp hi)
section
variable {K : PySem.W.Frag} {H : Hp} {Q : VK}
theorem sl_uni {a : Addr} {xs : List V} {lo hi : Option Int} (h : H a = some (.tup xs)) (q : ∀ u H', Same H H' → H' u = some (.tup (cutV xs lo hi)) → Q (.ref u) H') : rSlA K (.ref a) lo hi H Q := by
  refine ⟨a, xs, rfl, SqT.of h, fun w => q a H (Same.refl H) ?_, fun _ u nu => q u _ (same_upd nu) upd_same⟩
  rw [h]
  unfold cutV
  rw [w.1, w.2, List.drop_zero, Nat.sub_zero, List.take_length]
theorem cat_uni {a b : Addr} {xs ys : List V} (ha : H a = some (.tup xs)) (hb : H b = some (.tup ys)) (l : xs.length + ys.length ≤ sizeLine) (q : ∀ u H', Same H H' → H' u = some (.tup (xs ++ ys)) → Q (.ref u) H') : rCatA K (.ref a) (.ref b) H Q := by
  refine ⟨a, b, xs, ys, rfl, rfl, SqT.of ha, SqT.of hb, l, fun e => q b H (Same.refl H) ?_, fun _ e => q a H (Same.refl H) ?_, fun _ _ u nu => q u _ (same_upd nu) upd_same⟩
  · rw [hb, e, List.nil_append]
  · rw [ha, e, List.append_nil]
end
theorem eqv_selfL (t : List Int) : PyData.eqv (.list (t.map PyData.int)) (.list (t.map PyData.int)) = true := SeqAt.eqv_refl _ (SeqAt.canLay_of_shaped (lst_shaped t))
end Sm

set_option maxHeartbeats 4000000
namespace Sm
/-! rules: a table that repeats -/
def vl (T : List Int) (p : Nat) (r : Int) (x : Nat) : Int :=
  if x < T.length then T.getD x 0 else T.getD (x - ((x - T.length) / p + 1) * p) 0 + (((x - T.length) / p + 1 : Nat) : Int) * r
structure RuleOk (T : List Int) (p : Nat) (r : Int) : Prop where
  p0 : 0 < p
  p1 : p ≤ T.length
  r0 : 0 ≤ r
  nn : ∀ i, i < T.length → 0 ≤ T.getD i 0
  mono : ∀ i, i + 1 < T.length → T.getD i 0 ≤ T.getD (i + 1) 0
  wrap : T.getD (T.length - 1) 0 ≤ T.getD (T.length - p) 0 + r
theorem place {n p x : Nat} (hp : 0 < p) (hpn : p ≤ n) (h : n ≤ x) : ((x - n) / p + 1) * p ≤ x ∧ n - p ≤ x - ((x - n) / p + 1) * p ∧ x - ((x - n) / p + 1) * p < n := by
  have a := Nat.div_add_mod (x - n) p
  have b := Nat.mod_lt (x - n) hp
  have c : ((x - n) / p + 1) * p = p * ((x - n) / p) + p := by rw [Nat.add_mul, Nat.one_mul, Nat.mul_comm]
  omega
theorem vl_lt {T : List Int} {p : Nat} {r : Int} {x : Nat} (h : x < T.length) : vl T p r x = T.getD x 0 := if_pos h
theorem vl_step {T : List Int} {p : Nat} {r : Int} {x : Nat} (hp : 0 < p) (hpn : p ≤ T.length) (h : T.length ≤ x) : vl T p r x = vl T p r (x - p) + r := by
  by_cases q : x - p < T.length
  · have e : (x - T.length) / p = 0 := Nat.div_eq_of_lt (by omega)
    rw [vl_lt q]
    unfold vl
    rw [if_neg (by omega), e]
    simp
  · have e : (x - T.length) / p = (x - p - T.length) / p + 1 := by
      rw [Nat.div_eq_sub_div hp (by omega), show x - T.length - p = x - p - T.length by omega]
    unfold vl
    rw [if_neg (by omega), if_neg q, e]
    have i : x - ((x - p - T.length) / p + 1 + 1) * p = x - p - ((x - p - T.length) / p + 1) * p := by
      rw [Nat.add_mul ((x - p - T.length) / p + 1) 1 p, Nat.one_mul]
      omega
    rw [i]
    have k : (((x - p - T.length) / p + 1 + 1 : Nat) : Int) * r = (((x - p - T.length) / p + 1 : Nat) : Int) * r + r := by
      rw [Int.natCast_add ((x - p - T.length) / p + 1) 1, Int.add_mul]
      simp
    rw [k, Int.add_assoc]
theorem vl_add {T : List Int} {p : Nat} {r : Int} {x : Nat} (hp : 0 < p) (hpn : p ≤ T.length) (h : T.length - p ≤ x) : vl T p r (x + p) = vl T p r x + r := by
  rw [vl_step hp hpn (by omega), Nat.add_sub_cancel]
theorem vl_addk {T : List Int} {p : Nat} {r : Int} {x : Nat} (hp : 0 < p) (hpn : p ≤ T.length) (h : T.length - p ≤ x) : ∀ k : Nat, vl T p r (x + k * p) = vl T p r x + (k : Int) * r
  | 0 => by simp
  | k + 1 => by
    have ih := vl_addk (r := r) hp hpn h k
    rw [show x + (k + 1) * p = x + k * p + p by rw [Nat.add_mul, Nat.one_mul, Nat.add_assoc], vl_add hp hpn (by omega), ih]
    rw [Int.natCast_add, Int.add_mul]
    simp
    omega
section
variable {T : List Int} {p : Nat} {r : Int}
theorem RuleOk.up (o : RuleOk T p r) : ∀ x, vl T p r x ≤ vl T p r (x + 1) := by
  intro x
  induction x using Nat.strongRecOn with
  | _ x ih =>
    have p0 := o.p0
    have p1 := o.p1
    by_cases a : x + 1 < T.length
    · rw [vl_lt a, vl_lt (by omega)]
      exact o.mono x a
    · by_cases b : x < T.length
      · rw [vl_lt b, vl_step p0 p1 (by omega), vl_lt (by omega)]
        have w := o.wrap
        rw [show x = T.length - 1 by omega]
        rw [show T.length - 1 + 1 - p = T.length - p by omega]
        exact w
      · rw [vl_step p0 p1 (by omega), vl_step (x := x + 1) p0 p1 (by omega)]
        have := ih (x - p) (by omega)
        rw [show x - p + 1 = x + 1 - p by omega] at this
        omega
theorem RuleOk.le (o : RuleOk T p r) {x y : Nat} (h : x ≤ y) : vl T p r x ≤ vl T p r y := by
  obtain ⟨k, rfl⟩ := Nat.le.dest h
  induction k with
  | zero => exact Int.le_refl _
  | succ k ih => exact Int.le_trans (ih (by omega)) (o.up _)
theorem RuleOk.pos (o : RuleOk T p r) (x : Nat) : 0 ≤ vl T p r x := by
  have a := o.le (Nat.zero_le x)
  have p0 := o.p0
  have p1 := o.p1
  rw [vl_lt (x := 0) (by omega)] at a
  have := o.nn 0 (by omega)
  omega
theorem RuleOk.row (o : RuleOk T p r) {i j : Nat} (h : i ≤ j) (hj : j < T.length) : T.getD i 0 ≤ T.getD j 0 := by
  have a := o.le h
  rw [vl_lt hj, vl_lt (by omega)] at a
  exact a
/-- the values of the last period repeat by s, increased by c -/
def Rep (T : List Int) (p : Nat) (r : Int) (s : Nat) (c : Int) : Prop := ∀ i, T.length - p ≤ i → i < T.length → vl T p r (i + s) = T.getD i 0 + c
theorem rep_all {s : Nat} {c : Int} (o : RuleOk T p r) (h : Rep T p r s c) : ∀ y, T.length - p ≤ y → vl T p r (y + s) = vl T p r y + c := by
  intro y
  induction y using Nat.strongRecOn with
  | _ y ih =>
    intro hy
    have p0 := o.p0
    have p1 := o.p1
    by_cases a : y < T.length
    · rw [vl_lt a]
      exact h y hy a
    · have e := ih (y - p) (by omega) (by omega)
      rw [vl_step (x := y) p0 p1 (by omega), vl_step (x := y + s) p0 p1 (by omega), show y + s - p = y - p + s by omega, e]
      omega
theorem rep_self (o : RuleOk T p r) : Rep T p r p r := fun i h1 h2 => by
  rw [vl_add o.p0 o.p1 h1, vl_lt h2]
theorem getD_take {n i : Nat} (h : i < n) : (T.take n).getD i 0 = T.getD i 0 := by
  rw [List.getD_eq_getElem?_getD, List.getD_eq_getElem?_getD, List.getElem?_take_of_lt h]
/-- the table cut: still a rule, with the same values -/
theorem cut_ok {a s : Nat} {c : Int} (o : RuleOk T p r) (hs : 0 < s) (ha : a + s ≤ T.length) (c0 : 0 ≤ c) (h : ∀ y, a ≤ y → vl T p r (y + s) = vl T p r y + c) : RuleOk (T.take (a + s)) s c := by
  have len : (T.take (a + s)).length = a + s := by rw [List.length_take]; omega
  refine ⟨hs, by omega, c0, fun i hi => ?_, fun i hi => ?_, ?_⟩
  · rw [getD_take (by omega)]
    exact o.nn i (by omega)
  · rw [getD_take (by omega), getD_take (by omega)]
    exact o.mono i (by omega)
  · rw [len, getD_take (by omega), getD_take (by omega), show a + s - s = a by omega]
    have e := h a (Nat.le_refl _)
    have u := o.up (a + s - 1)
    rw [show a + s - 1 + 1 = a + s by omega, e, vl_lt (by omega), vl_lt (by omega)] at u
    exact u
theorem cut_vl {a s : Nat} {c : Int} (hs : 0 < s) (ha : a + s ≤ T.length) (h : ∀ y, a ≤ y → vl T p r (y + s) = vl T p r y + c) : ∀ x, vl (T.take (a + s)) s c x = vl T p r x := by
  have len : (T.take (a + s)).length = a + s := by rw [List.length_take]; omega
  intro x
  induction x using Nat.strongRecOn with
  | _ x ih =>
    by_cases q : x < a + s
    · rw [vl_lt (by omega), vl_lt (by omega), getD_take q]
    · rw [vl_step hs (by omega) (by omega), ih (x - s) (by omega), ← h (x - s) (by omega), show x - s + s = x by omega]
/-- the least amount, or none -/
def IsLf (T : List Int) (p : Nat) (r : Int) (y : Int) : Option Nat → Prop
  | none => r = 0 ∧ T.getD (T.length - 1) 0 < y
  | some x => y ≤ vl T p r x ∧ ∀ z, z < x → vl T p r z < y
theorem lf_near {y : Int} {i : Nat} (hi : i < T.length) (h1 : y ≤ T.getD i 0) (h2 : ∀ j, j < i → T.getD j 0 < y) : IsLf T p r y (some i) :=
  ⟨by rw [vl_lt hi]; exact h1, fun z hz => by rw [vl_lt (by omega)]; exact h2 z hz⟩
theorem lf_far {y : Int} {i k : Nat} (o : RuleOk T p r) (k0 : 0 < k) (hk : T.getD (T.length - 1) 0 + ((k : Int) - 1) * r < y) (h0 : T.length - p ≤ i) (hi : i < T.length) (h1 : y - (k : Int) * r ≤ T.getD i 0)
    (h2 : ∀ j, T.length - p ≤ j → j < i → T.getD j 0 < y - (k : Int) * r) : IsLf T p r y (some (i + k * p)) := by
  have p0 := o.p0
  have p1 := o.p1
  refine ⟨?_, fun z hz => ?_⟩
  · rw [vl_addk p0 p1 h0, vl_lt hi]
    omega
  · have kp : p ≤ k * p := Nat.le_mul_of_pos_left p k0
    refine Int.lt_of_le_of_lt (o.le (show z ≤ i + k * p - 1 by omega)) ?_
    by_cases q : i = T.length - p
    · obtain ⟨k, rfl⟩ : ∃ j, k = j + 1 := ⟨k - 1, by omega⟩
      have e : i + (k + 1) * p - 1 = T.length - 1 + k * p := by
        rw [Nat.add_mul, Nat.one_mul] at kp ⊢
        omega
      rw [e, vl_addk p0 p1 (by omega), vl_lt (by omega)]
      have c : ((k + 1 : Nat) : Int) - 1 = (k : Int) := by omega
      rw [c] at hk
      exact hk
    · rw [show i + k * p - 1 = i - 1 + k * p by omega, vl_addk p0 p1 (by omega), vl_lt (by omega)]
      have := h2 (i - 1) (by omega) (by omega)
      omega
theorem lf_one {y : Int} {a b : Option Nat} (o : RuleOk T p r) (ha : IsLf T p r y a) (hb : IsLf T p r y b) : a = b := by
  have no : ∀ {x : Nat}, IsLf T p r y none → IsLf T p r y (some x) → False := by
    rintro x ⟨h1, h2⟩ ⟨h3, _⟩
    have p0 := o.p0
    have p1 := o.p1
    have all : ∀ x, vl T p r x ≤ T.getD (T.length - 1) 0 := by
      intro x
      induction x using Nat.strongRecOn with
      | _ x ih =>
        by_cases q : x < T.length
        · rw [vl_lt q]
          exact o.row (by omega) (by omega)
        · rw [vl_step p0 p1 (by omega)]
          have := ih (x - p) (by omega)
          omega
    have := all x
    omega
  match a, b, ha, hb with
  | none, none, _, _ => rfl
  | none, some x, ha, hb => exact (no ha hb).elim
  | some x, none, ha, hb => exact (no hb ha).elim
  | some x, some z, ⟨h1, h2⟩, ⟨h3, h4⟩ =>
    rcases Nat.lt_trichotomy x z with q | q | q
    · have := h4 x q
      omega
    · rw [q]
    · have := h2 z q
      omega
end
theorem div_cast {x n p : Nat} (h : n ≤ x) : ((x : Int) - (n : Int)) / (p : Int) + 1 = (((x - n) / p + 1 : Nat) : Int) := by
  rw [← Int.natCast_sub h]
  rfl
theorem ceil_lo {a r : Int} (hr : 0 < r) : a ≤ (a + r - 1) / r * r ∧ ((a + r - 1) / r - 1) * r < a := by
  have h1 := Int.mul_ediv_add_emod (a + r - 1) r
  have h2 := Int.emod_nonneg (a + r - 1) (show r ≠ 0 by omega)
  have h3 := Int.emod_lt_of_pos (a + r - 1) hr
  have e : (a + r - 1) / r * r = r * ((a + r - 1) / r) := Int.mul_comm _ _
  have e2 : ((a + r - 1) / r - 1) * r = r * ((a + r - 1) / r) - r := by rw [Int.sub_mul, Int.mul_comm]; omega
  omega
end Sm

set_option maxHeartbeats 4000000
namespace Sm
structure RuleW (T : List Int) (p : Nat) (r : Int) : Prop where
  p0 : 0 < p
  p1 : p ≤ T.length
  r0 : 0 ≤ r
theorem RuleOk.w {T : List Int} {p : Nat} {r : Int} (o : RuleOk T p r) : RuleW T p r := ⟨o.p0, o.p1, o.r0⟩
section
variable {T : List Int} {p : Nat} {r : Int}
theorem rep_allW {s : Nat} {c : Int} (o : RuleW T p r) (h : Rep T p r s c) : ∀ y, T.length - p ≤ y → vl T p r (y + s) = vl T p r y + c := by
  intro y
  induction y using Nat.strongRecOn with
  | _ y ih =>
    intro hy
    have p0 := o.p0
    have p1 := o.p1
    by_cases a : y < T.length
    · rw [vl_lt a]
      exact h y hy a
    · have e := ih (y - p) (by omega) (by omega)
      rw [vl_step (x := y) p0 p1 (by omega), vl_step (x := y + s) p0 p1 (by omega), show y + s - p = y - p + s by omega, e]
      omega
theorem rep_selfW (o : RuleW T p r) : Rep T p r p r := fun i h1 h2 => by
  rw [vl_add o.p0 o.p1 h1, vl_lt h2]
/-- a weak rule that does not fall within its table and behind it is a rule -/
theorem W_ok (o : RuleW T p r) (nn : ∀ i, i < T.length → 0 ≤ T.getD i 0) (h : ∀ x, x < T.length → T.getD x 0 ≤ vl T p r (x + 1)) : RuleOk T p r := by
  have p0 := o.p0
  have p1 := o.p1
  refine ⟨p0, p1, o.r0, nn, fun i hi => ?_, ?_⟩
  · have := h i (by omega)
    rw [vl_lt hi] at this
    exact this
  · have := h (T.length - 1) (by omega)
    rw [vl_step p0 p1 (by omega), show T.length - 1 + 1 - p = T.length - p by omega, vl_lt (by omega)] at this
    exact this
end
section
variable {T1 T2 : List Int} {p1 p2 : Nat} {r1 r2 : Int}
def gp (T1 : List Int) (p1 : Nat) (r1 : Int) (T2 : List Int) (p2 : Nat) (r2 : Int) (x : Nat) : Int := vl T1 p1 r1 x - vl T2 p2 r2 x
/-- the first amount at which the one is above, or none -/
def IsFst (T1 : List Int) (p1 : Nat) (r1 : Int) (T2 : List Int) (p2 : Nat) (r2 : Int) : Option Nat → Prop
  | none => ∀ x, gp T1 p1 r1 T2 p2 r2 x ≤ 0
  | some x => 0 < gp T1 p1 r1 T2 p2 r2 x ∧ ∀ z, z < x → gp T1 p1 r1 T2 p2 r2 z ≤ 0
theorem fst_one {a b : Option Nat} (ha : IsFst T1 p1 r1 T2 p2 r2 a) (hb : IsFst T1 p1 r1 T2 p2 r2 b) : a = b := by
  match a, b, ha, hb with
  | none, none, _, _ => rfl
  | none, some x, ha, hb =>
    have := ha x
    have := hb.1
    omega
  | some x, none, ha, hb =>
    have := hb x
    have := ha.1
    omega
  | some x, some z, ⟨h1, h2⟩, ⟨h3, h4⟩ =>
    rcases Nat.lt_trichotomy x z with q | q | q
    · have := h4 x q
      omega
    · rw [q]
    · have := h2 z q
      omega
/-- by a common turn t = a p1 = b p2 the gap grows by g, from a start of both on -/
theorem gp_turn {B a b : Nat} (w1 : RuleW T1 p1 r1) (w2 : RuleW T2 p2 r2) (hB1 : T1.length - p1 ≤ B) (hB2 : T2.length - p2 ≤ B) (e : a * p1 = b * p2) {x : Nat} (hx : B ≤ x) :
    gp T1 p1 r1 T2 p2 r2 (x + a * p1) = gp T1 p1 r1 T2 p2 r2 x + ((a : Int) * r1 - (b : Int) * r2) := by
  unfold gp
  rw [vl_addk w1.p0 w1.p1 (by omega) a, e, vl_addk w2.p0 w2.p1 (by omega) b]
  omega
theorem gp_turns {B t : Nat} {g : Int} (h : ∀ x, B ≤ x → gp T1 p1 r1 T2 p2 r2 (x + t) = gp T1 p1 r1 T2 p2 r2 x + g) {x : Nat} (hx : B ≤ x) : ∀ k : Nat, gp T1 p1 r1 T2 p2 r2 (x + k * t) = gp T1 p1 r1 T2 p2 r2 x + (k : Int) * g
  | 0 => by simp
  | k + 1 => by
    have ih := gp_turns h hx k
    rw [show x + (k + 1) * t = x + k * t + t by rw [Nat.add_mul, Nat.one_mul, Nat.add_assoc], h _ (by omega), ih, Int.natCast_add, Int.add_mul]
    simp
    omega
theorem split_turn {B t z : Nat} (t0 : 0 < t) (hz : B ≤ z) : ∃ x k, B ≤ x ∧ x < B + t ∧ z = x + k * t := by
  have a := Nat.div_add_mod (z - B) t
  have b := Nat.mod_lt (z - B) t0
  refine ⟨B + (z - B) % t, (z - B) / t, by omega, by omega, ?_⟩
  rw [Nat.mul_comm]
  omega
theorem none_of {B t : Nat} {g : Int} (t0 : 0 < t) (h : ∀ x, B ≤ x → gp T1 p1 r1 T2 p2 r2 (x + t) = gp T1 p1 r1 T2 p2 r2 x + g) (hg : g ≤ 0) (early : ∀ x, x < B + t → gp T1 p1 r1 T2 p2 r2 x ≤ 0) : IsFst T1 p1 r1 T2 p2 r2 none := by
  intro z
  by_cases q : z < B
  · exact early z (by omega)
  · obtain ⟨x, k, h1, h2, rfl⟩ := split_turn t0 (show B ≤ z by omega)
    rw [gp_turns h h1 k]
    have := early x h2
    have : (k : Int) * g ≤ 0 := Int.mul_nonpos_of_nonneg_of_nonpos (by omega) hg
    omega
/-- the least of the first amounts of all rests -/
theorem some_of {B t m : Nat} {g : Int} (t0 : 0 < t) (h : ∀ x, B ≤ x → gp T1 p1 r1 T2 p2 r2 (x + t) = gp T1 p1 r1 T2 p2 r2 x + g) (hg : 0 < g) (early : ∀ x, x < B + t → gp T1 p1 r1 T2 p2 r2 x ≤ 0)
    (hm : ∃ x, B ≤ x ∧ x < B + t ∧ (m : Int) = (x : Int) + (t : Int) * ((-gp T1 p1 r1 T2 p2 r2 x) / g + 1)) (least : ∀ x, B ≤ x → x < B + t → (m : Int) ≤ (x : Int) + (t : Int) * ((-gp T1 p1 r1 T2 p2 r2 x) / g + 1)) : IsFst T1 p1 r1 T2 p2 r2 (some m) := by
  constructor
  · obtain ⟨x, h1, h2, e⟩ := hm
    have ex := early x h2
    have q0 : 0 ≤ (-gp T1 p1 r1 T2 p2 r2 x) / g := Int.ediv_nonneg (by omega) (by omega)
    obtain ⟨k, hk⟩ : ∃ k : Nat, (-gp T1 p1 r1 T2 p2 r2 x) / g = (k : Int) := ⟨_, (Int.toNat_of_nonneg q0).symm⟩
    have e2 : m = x + (k + 1) * t := by
      rw [hk] at e
      have : ((x + (k + 1) * t : Nat) : Int) = (x : Int) + (t : Int) * ((k : Int) + 1) := by
        rw [Int.natCast_add, Int.natCast_mul, Int.mul_comm]
        rfl
      omega
    rw [e2, gp_turns h h1]
    have d1 := Int.mul_ediv_add_emod (-gp T1 p1 r1 T2 p2 r2 x) g
    have d2 := Int.emod_lt_of_pos (-gp T1 p1 r1 T2 p2 r2 x) hg
    rw [hk] at d1
    have e3 : ((k + 1 : Nat) : Int) * g = g * (k : Int) + g := by rw [Int.natCast_add, Int.add_mul, Int.mul_comm]; simp
    omega
  · intro z hz
    by_cases q : z < B
    · exact early z (by omega)
    · obtain ⟨x, k, h1, h2, rfl⟩ := split_turn t0 (show B ≤ z by omega)
      rcases Int.lt_or_le 0 (gp T1 p1 r1 T2 p2 r2 (x + k * t)) with w | w
      · exfalso
        have l := least x h1 h2
        rw [gp_turns h h1 k] at w
        have d1 := Int.mul_ediv_add_emod (-gp T1 p1 r1 T2 p2 r2 x) g
        have d2 := Int.emod_nonneg (-gp T1 p1 r1 T2 p2 r2 x) (show g ≠ 0 by omega)
        have lt : (-gp T1 p1 r1 T2 p2 r2 x) / g < (k : Int) := by
          rcases Int.lt_or_le ((-gp T1 p1 r1 T2 p2 r2 x) / g) (k : Int) with c | c
          · exact c
          · have := Int.mul_le_mul_of_nonneg_left c (show 0 ≤ g by omega)
            rw [Int.mul_comm g (k : Int)] at this
            omega
        have le := Int.mul_le_mul_of_nonneg_left (show (-gp T1 p1 r1 T2 p2 r2 x) / g + 1 ≤ (k : Int) by omega) (show 0 ≤ (t : Int) by omega)
        have c1 : ((k * t : Nat) : Int) = (t : Int) * (k : Int) := by rw [Int.natCast_mul, Int.mul_comm]
        omega
      · exact w
end
end Sm

set_option maxHeartbeats 4000000
namespace Sm
/-! just one shortest tuple has given values -/
structure Short (T : List Int) (p : Nat) (r : Int) : Prop where
  ok : RuleOk T p r
  turn : ∀ s c, 0 < s → s < p → s ∣ p → ¬ Rep T p r s c
  start : p = T.length ∨ vl T p r (T.length - 1) ≠ T.getD (T.length - p - 1) 0 + r
theorem vl_ge_turn {T : List Int} {p : Nat} {r : Int} (o : RuleOk T p r) {x : Nat} (h : T.length - p ≤ x) (k : Nat) : vl T p r (x + k * p) = vl T p r x + (k : Int) * r := vl_addk o.p0 o.p1 h k
/-- what holds far off holds from the start of the turns on -/
theorem rep_down {T : List Int} {p s A : Nat} {r c : Int} (o : RuleOk T p r) (h : ∀ x, A ≤ x → vl T p r (x + s) = vl T p r x + c) {x : Nat} (hx : T.length - p ≤ x) : vl T p r (x + s) = vl T p r x + c := by
  have p0 := o.p0
  have e1 := vl_ge_turn o (x := x) hx A
  have e2 := vl_ge_turn o (x := x + s) (by omega) A
  have far : A ≤ x + A * p := by
    have : A * 1 ≤ A * p := Nat.mul_le_mul_left A p0
    omega
  have e3 := h _ far
  rw [show x + A * p + s = x + s + A * p by omega] at e3
  omega
/-- two turns have a turn as long as their greatest common divisor -/
theorem gcd_turn {f : Nat → Int} {A : Nat} : ∀ (n p q : Nat), p + q ≤ n → 0 < p → 0 < q → (∃ r, ∀ x, A ≤ x → f (x + p) = f x + r) → (∃ t, ∀ x, A ≤ x → f (x + q) = f x + t) → ∃ c, ∀ x, A ≤ x → f (x + Nat.gcd p q) = f x + c
  | 0, p, q, h, p0, q0, _, _ => by omega
  | n + 1, p, q, h, p0, q0, ⟨r, hr⟩, ⟨t, ht⟩ => by
    rcases Nat.lt_trichotomy p q with l | l | l
    · have g : Nat.gcd p (q - p) = Nat.gcd p q := Nat.gcd_sub_self_right (Nat.le_of_lt l)
      rw [← g]
      refine gcd_turn n p (q - p) (by omega) p0 (by omega) ⟨r, hr⟩ ⟨t - r, fun x hx => ?_⟩
      have e1 := ht x hx
      have e2 := hr (x + (q - p)) (by omega)
      rw [show x + (q - p) + p = x + q by omega] at e2
      omega
    · subst l
      rw [Nat.gcd_self]
      exact ⟨r, hr⟩
    · have g : Nat.gcd (p - q) q = Nat.gcd p q := Nat.gcd_sub_self_left (Nat.le_of_lt l)
      rw [← g]
      refine gcd_turn n (p - q) q (by omega) (by omega) q0 ⟨r - t, fun x hx => ?_⟩ ⟨t, ht⟩
      have e1 := hr x hx
      have e2 := ht (x + (p - q)) (by omega)
      rw [show x + (p - q) + q = x + p by omega] at e2
      omega
theorem short_le {T1 T2 : List Int} {p1 p2 : Nat} {r1 r2 : Int} (s1 : Short T1 p1 r1) (o2 : RuleOk T2 p2 r2) (h : ∀ x, vl T1 p1 r1 x = vl T2 p2 r2 x) : Nat.gcd p1 p2 = p1 := by
  have o1 := s1.ok
  obtain ⟨c, hc⟩ := gcd_turn (f := vl T1 p1 r1) (A := max (T1.length - p1) (T2.length - p2)) _ p1 p2 (Nat.le_refl _) o1.p0 o2.p0 ⟨r1, fun x hx => vl_add o1.p0 o1.p1 (by omega)⟩ ⟨r2, fun x hx => by rw [h, h]; exact vl_add o2.p0 o2.p1 (by omega)⟩
  have g0 : 0 < Nat.gcd p1 p2 := Nat.gcd_pos_of_pos_left _ o1.p0
  have gl : Nat.gcd p1 p2 ≤ p1 := Nat.le_of_dvd o1.p0 (Nat.gcd_dvd_left ..)
  by_cases q : Nat.gcd p1 p2 = p1
  · exact q
  · exact absurd (fun i h1 h2 => by rw [← vl_lt (p := p1) (r := r1) h2]; exact rep_down o1 hc h1) (s1.turn _ c g0 (by omega) (Nat.gcd_dvd_left ..))
theorem short_start {T1 T2 : List Int} {p : Nat} {r : Int} (s1 : Short T1 p r) (s2 : Short T2 p r) (h : ∀ x, vl T1 p r x = vl T2 p r x) : T2.length ≤ T1.length := by
  have o1 := s1.ok
  have o2 := s2.ok
  have p0 := o1.p0
  have l1 := o1.p1
  have l2 := o2.p1
  rcases Nat.lt_or_ge T1.length T2.length with q | q
  · exfalso
    rcases s2.start with e | e
    · omega
    · apply e
      have := vl_add (T := T1) (p := p) (r := r) p0 l1 (x := T2.length - p - 1) (by omega)
      rw [show T2.length - p - 1 + p = T2.length - 1 by omega, h, h, vl_lt (T := T2) (x := T2.length - p - 1) (by omega)] at this
      exact this
  · exact q
/-- just one shortest tuple has given values -/
theorem short_one {T1 T2 : List Int} {p1 p2 : Nat} {r1 r2 : Int} (s1 : Short T1 p1 r1) (s2 : Short T2 p2 r2) (h : ∀ x, vl T1 p1 r1 x = vl T2 p2 r2 x) : T1 = T2 ∧ p1 = p2 ∧ r1 = r2 := by
  have a := short_le s1 s2.ok h
  have b := short_le s2 s1.ok fun x => (h x).symm
  rw [Nat.gcd_comm] at b
  obtain rfl : p1 = p2 := a.symm.trans b
  have o1 := s1.ok
  have o2 := s2.ok
  have e1 := vl_add o1.p0 o1.p1 (r := r1) (x := max (T1.length - p1) (T2.length - p1)) (by omega)
  have e2 := vl_add o2.p0 o2.p1 (r := r2) (x := max (T1.length - p1) (T2.length - p1)) (by omega)
  rw [h, h] at e1
  obtain rfl : r1 = r2 := by omega
  have l : T1.length = T2.length := Nat.le_antisymm (short_start s2 s1 fun x => (h x).symm) (short_start s1 s2 h)
  refine ⟨List.ext_getElem l fun i h1 h2 => ?_, rfl, rfl⟩
  have e := h i
  rw [vl_lt h1, vl_lt h2, List.getD_eq_getElem?_getD, List.getD_eq_getElem?_getD, List.getElem?_eq_getElem h1, List.getElem?_eq_getElem h2] at e
  exact e
theorem rep_slope {T : List Int} {p s : Nat} {r c : Int} (o : RuleOk T p r) (sd : s ∣ p) (h : Rep T p r s c) : r * (s : Int) = c * (p : Int) := by
  obtain ⟨k, rfl⟩ := sd
  have all := rep_all o h
  have up : ∀ n : Nat, vl T (s * k) r (T.length - s * k + n * s) = vl T (s * k) r (T.length - s * k) + (n : Int) * c := by
    intro n
    induction n with
    | zero => simp
    | succ n ih =>
      rw [show T.length - s * k + (n + 1) * s = T.length - s * k + n * s + s by rw [Nat.add_mul]; omega, all _ (by omega), ih, Int.natCast_add, Int.add_mul]
      simp
      omega
  have e1 := up k
  have e2 := vl_add o.p0 o.p1 (r := r) (x := T.length - s * k) (Nat.le_refl _)
  rw [Nat.mul_comm k s, e2] at e1
  have e3 : r = (k : Int) * c := by omega
  rw [e3, Int.natCast_mul, Int.mul_comm (k : Int) c, Int.mul_assoc, Int.mul_comm (k : Int)]
theorem rep_quot {T : List Int} {p s : Nat} {r c : Int} (o : RuleOk T p r) (sd : s ∣ p) (h : Rep T p r s c) : r * (s : Int) / (p : Int) = c ∧ r * (s : Int) % (p : Int) = 0 := by
  have p0 := o.p0
  rw [rep_slope o sd h]
  exact ⟨Int.mul_ediv_cancel _ (by omega), Int.mul_emod_left _ _⟩
theorem cut_short {T : List Int} {p a s : Nat} {r c : Int} (o : RuleOk T p r) (hs : 0 < s) (sd : s ∣ p) (ha : a ≤ T.length - p) (c0 : 0 ≤ c) (h : ∀ y, a ≤ y → vl T p r (y + s) = vl T p r y + c)
    (hm : ∀ s' c', 0 < s' → s' < s → s' ∣ p → ¬ Rep T p r s' c') (st : a = 0 ∨ vl T p r (a - 1 + s) ≠ T.getD (a - 1) 0 + c) : Short (T.take (a + s)) s c := by
  have p1 := o.p1
  have sp : s ≤ p := Nat.le_of_dvd o.p0 sd
  have ok := cut_ok o hs (by omega) c0 h
  have eq := cut_vl (T := T) (p := p) (r := r) hs (show a + s ≤ T.length by omega) h
  have len : (T.take (a + s)).length = a + s := by rw [List.length_take]; omega
  refine ⟨ok, fun s' c' h1 h2 h3 rep => hm s' c' h1 h2 (Nat.dvd_trans h3 sd) fun i g1 g2 => ?_, ?_⟩
  · have all := rep_all ok rep i (by rw [len]; omega)
    rw [eq, eq, vl_lt (T := T) g2] at all
    exact all
  · by_cases z : a = 0
    · left
      rw [len, z, Nat.zero_add]
    · right
      rw [len, eq, show a + s - 1 = a - 1 + s by omega, show a + s - s - 1 = a - 1 by omega, getD_take (by omega)]
      rcases st with q | q
      · exact absurd q z
      · exact q
theorem dvd_of {p i : Nat} (h : (p : Int).fmod (1 + (i : Int)) = 0) : 1 + i ∣ p := by
  rw [Int.fmod_eq_emod_of_nonneg _ (by omega)] at h
  exact Int.natCast_dvd_natCast.mp (Int.dvd_of_emod_eq_zero (b := (p : Int)) (a := ((1 + i : Nat) : Int)) h)
theorem of_dvd {p i : Nat} (h : 1 + i ∣ p) : (p : Int).fmod (1 + (i : Int)) = 0 := by
  rw [Int.fmod_eq_emod_of_nonneg _ (by omega)]
  exact Int.emod_eq_zero_of_dvd (a := ((1 + i : Nat) : Int)) (Int.natCast_dvd_natCast.mpr h)
end Sm

set_option maxHeartbeats 4000000
namespace Sm
/-! a list that comes back when it is turned; the steps of the last period -/
def Rot (I : List Int) (s : Nat) : Prop := I = I.drop s ++ I.take s
structure Cyc (I : List Int) (s : Nat) : Prop where
  s0 : 0 < s
  s1 : s ≤ I.length
  dv : s ∣ I.length
  rot : s < I.length → Rot I s
  least : ∀ t, 0 < t → t < s → t ∣ I.length → ¬ Rot I t
def stepsOf (T : List Int) (p : Nat) (r : Int) : List Int := (List.range p).map fun i => vl T p r (T.length - p + i + 1) - vl T p r (T.length - p + i)
theorem stepsOf_len (T : List Int) (p : Nat) (r : Int) : (stepsOf T p r).length = p := by
  unfold stepsOf
  rw [List.length_map, List.length_range]
theorem stepsOf_get {T : List Int} {p : Nat} {r : Int} {i : Nat} (h : i < p) : (stepsOf T p r)[i]? = some (vl T p r (T.length - p + i + 1) - vl T p r (T.length - p + i)) := by
  unfold stepsOf
  rw [List.getElem?_map, List.getElem?_range h]
  rfl
theorem rot_get {I : List Int} {s i : Nat} (h : Rot I s) (hs : s ≤ I.length) (hi : i < I.length) : I[i]? = if i + s < I.length then I[i + s]? else I[i + s - I.length]? := by
  have e : I[i]? = (I.drop s ++ I.take s)[i]? := congrArg (fun l => l[i]?) h
  rw [e, List.getElem?_append, List.length_drop]
  by_cases q : i < I.length - s
  · rw [if_pos q, if_pos (by omega), List.getElem?_drop, Nat.add_comm]
  · rw [if_neg q, if_neg (by omega), List.getElem?_take_of_lt (by omega), show i - (I.length - s) = i + s - I.length by omega]
theorem of_rot {I : List Int} {s : Nat} (hs : s ≤ I.length) (h : ∀ i, i < I.length → I[i]? = if i + s < I.length then I[i + s]? else I[i + s - I.length]?) : Rot I s := by
  refine List.ext_getElem? fun i => ?_
  by_cases hi : i < I.length
  · rw [h i hi, List.getElem?_append, List.length_drop]
    by_cases q : i < I.length - s
    · rw [if_pos q, if_pos (by omega), List.getElem?_drop, Nat.add_comm]
    · rw [if_neg q, if_neg (by omega), List.getElem?_take_of_lt (by omega), show i - (I.length - s) = i + s - I.length by omega]
  · rw [List.getElem?_eq_none (by omega), List.getElem?_eq_none (by rw [List.length_append, List.length_drop, List.length_take]; omega)]
theorem rot_rep {T : List Int} {p s : Nat} {r : Int} (o : RuleW T p r) (sp : s < p) (h : Rot (stepsOf T p r) s) : Rep T p r s (vl T p r (T.length - p + s) - vl T p r (T.length - p)) := by
  have p0 := o.p0
  have p1 := o.p1
  have ln := stepsOf_len T p r
  have d : ∀ j, j < p → vl T p r (T.length - p + (j + s) + 1) - vl T p r (T.length - p + (j + s)) = vl T p r (T.length - p + j + 1) - vl T p r (T.length - p + j) := by
    intro j hj
    have e := rot_get h (by omega) (i := j) (by omega)
    rw [ln, stepsOf_get hj] at e
    by_cases q : j + s < p
    · rw [if_pos q, stepsOf_get q] at e
      exact (Option.some.inj e).symm
    · rw [if_neg q, stepsOf_get (by omega)] at e
      have e := Option.some.inj e
      have e1 := vl_add p0 p1 (r := r) (x := T.length - p + (j + s - p) + 1) (by omega)
      have e2 := vl_add p0 p1 (r := r) (x := T.length - p + (j + s - p)) (by omega)
      rw [show T.length - p + (j + s - p) + 1 + p = T.length - p + (j + s) + 1 by omega] at e1
      rw [show T.length - p + (j + s - p) + p = T.length - p + (j + s) by omega] at e2
      omega
  have all : ∀ j, j ≤ p → vl T p r (T.length - p + j + s) = vl T p r (T.length - p + j) + (vl T p r (T.length - p + s) - vl T p r (T.length - p)) := by
    intro j
    induction j with
    | zero => intro _; simp; omega
    | succ j ih =>
      intro hj
      have a := ih (by omega)
      have b := d j (by omega)
      rw [show T.length - p + (j + s) + 1 = T.length - p + (j + 1) + s by omega, show T.length - p + (j + s) = T.length - p + j + s by omega] at b
      rw [show T.length - p + (j + 1) = T.length - p + j + 1 by omega] at b ⊢
      omega
  intro i h1 h2
  have := all (i - (T.length - p)) (by omega)
  rw [show T.length - p + (i - (T.length - p)) = i by omega] at this
  rw [this, vl_lt h2]
theorem rep_rot {T : List Int} {p s : Nat} {r c : Int} (o : RuleW T p r) (sp : s ≤ p) (h : Rep T p r s c) : Rot (stepsOf T p r) s := by
  have p0 := o.p0
  have p1 := o.p1
  have ln := stepsOf_len T p r
  have all := rep_allW o h
  refine of_rot (by omega) fun i hi => ?_
  rw [ln] at hi ⊢
  rw [stepsOf_get hi]
  have a := all (T.length - p + i) (by omega)
  have b := all (T.length - p + i + 1) (by omega)
  by_cases q : i + s < p
  · rw [if_pos q, stepsOf_get q]
    rw [show T.length - p + i + s = T.length - p + (i + s) by omega] at a
    rw [show T.length - p + i + 1 + s = T.length - p + (i + s) + 1 by omega] at b
    congr 1
    omega
  · rw [if_neg q, stepsOf_get (by omega)]
    have e1 := vl_add p0 p1 (r := r) (x := T.length - p + (i + s - p) + 1) (by omega)
    have e2 := vl_add p0 p1 (r := r) (x := T.length - p + (i + s - p)) (by omega)
    rw [show T.length - p + (i + s - p) + 1 + p = T.length - p + i + 1 + s by omega] at e1
    rw [show T.length - p + (i + s - p) + p = T.length - p + i + s by omega] at e2
    congr 1
    omega
/-- the least turn of the steps is the rule's least turn -/
theorem cyc_rule {T : List Int} {p s : Nat} {r : Int} (o : RuleOk T p r) (h : Cyc (stepsOf T p r) s) : 0 < s ∧ s ≤ p ∧ s ∣ p ∧ Rep T p r s (r * (s : Int) / (p : Int)) ∧ ∀ s' c', 0 < s' → s' < s → s' ∣ p → ¬ Rep T p r s' c' := by
  obtain ⟨s0, s1, dv, rot, least⟩ := h
  rw [stepsOf_len] at s1 dv rot least
  have p0 := o.p0
  refine ⟨s0, s1, dv, ?_, fun s' c' h1 h2 h3 rep => least s' h1 h2 h3 (rep_rot o.w (by omega) rep)⟩
  by_cases q : s < p
  · have rep := rot_rep o.w q (rot q)
    rw [(rep_quot o dv rep).1]
    exact rep
  · obtain rfl : s = p := by omega
    rw [Int.mul_ediv_cancel _ (by omega)]
    exact rep_self o
/-! values told by a function, as a rule -/
theorem tab_getD {f : Nat → Int} {n i : Nat} (h : i < n) : ((List.range n).map f).getD i 0 = f i := by
  rw [List.getD_eq_getElem?_getD, List.getElem?_map, List.getElem?_range h]
  rfl
theorem tab_len {f : Nat → Int} {n : Nat} : ((List.range n).map f).length = n := by rw [List.length_map, List.length_range]
theorem tab_vl {f : Nat → Int} {B t : Nat} {R : Int} (t0 : 0 < t) (h : ∀ x, B ≤ x → f (x + t) = f x + R) : ∀ x, vl ((List.range (B + t)).map f) t R x = f x := by
  intro x
  induction x using Nat.strongRecOn with
  | _ x ih =>
    by_cases q : x < B + t
    · rw [vl_lt (by rw [tab_len]; exact q), tab_getD q]
    · rw [vl_step t0 (by rw [tab_len]; omega) (by rw [tab_len]; omega), ih (x - t) (by omega)]
      have := h (x - t) (by omega)
      rw [show x - t + t = x by omega] at this
      omega
theorem tab_ok {f : Nat → Int} {B t : Nat} {R : Int} (t0 : 0 < t) (R0 : 0 ≤ R) (h : ∀ x, B ≤ x → f (x + t) = f x + R) (f0 : ∀ x, 0 ≤ f x) (up : ∀ x, f x ≤ f (x + 1)) : RuleOk ((List.range (B + t)).map f) t R := by
  refine ⟨t0, by rw [tab_len]; omega, R0, fun i hi => ?_, fun i hi => ?_, ?_⟩
  · rw [tab_len] at hi
    rw [tab_getD hi]
    exact f0 i
  · rw [tab_len] at hi
    rw [tab_getD hi, tab_getD (by omega)]
    exact up i
  · rw [tab_len, tab_getD (by omega), tab_getD (by omega), show B + t - t = B by omega]
    have a := h B (Nat.le_refl _)
    have b := up (B + t - 1)
    rw [show B + t - 1 + 1 = B + t by omega] at b
    omega
end Sm

set_option linter.all false
set_option maxRecDepth 100000
namespace Sm
section
variable {T1 T2 : List Int} {p1 p2 : Nat} {r1 r2 : Int}
/-- two rules that are equal far off: the shorter one's period divides the other one's -/
theorem far_le {A : Nat} (s1 : Short T1 p1 r1) (o2 : RuleOk T2 p2 r2) (h : ∀ x, A ≤ x → vl T1 p1 r1 x = vl T2 p2 r2 x) : Nat.gcd p1 p2 = p1 := by
  have o1 := s1.ok
  obtain ⟨c, hc⟩ := gcd_turn (f := vl T1 p1 r1) (A := max A (max (T1.length - p1) (T2.length - p2))) _ p1 p2 (Nat.le_refl _) o1.p0 o2.p0 ⟨r1, fun x hx => vl_add o1.p0 o1.p1 (by omega)⟩
    ⟨r2, fun x hx => by rw [h x (by omega), h (x + p2) (by omega)]; exact vl_add o2.p0 o2.p1 (by omega)⟩
  have g0 : 0 < Nat.gcd p1 p2 := Nat.gcd_pos_of_pos_left _ o1.p0
  have gl : Nat.gcd p1 p2 ≤ p1 := Nat.le_of_dvd o1.p0 (Nat.gcd_dvd_left ..)
  by_cases q : Nat.gcd p1 p2 = p1
  · exact q
  · refine absurd (fun i h1 h2 => ?_) (s1.turn (Nat.gcd p1 p2) c g0 (by omega) (Nat.gcd_dvd_left ..))
    have := rep_down o1 hc (x := i) h1
    rw [vl_lt h2] at this
    exact this
theorem far_turn {A : Nat} (s1 : Short T1 p1 r1) (s2 : Short T2 p2 r2) (h : ∀ x, A ≤ x → vl T1 p1 r1 x = vl T2 p2 r2 x) : p1 = p2 ∧ r1 = r2 := by
  have a := far_le s1 s2.ok h
  have b := far_le s2 s1.ok fun x hx => (h x hx).symm
  rw [Nat.gcd_comm] at b
  have e : p1 = p2 := a.symm.trans b
  refine ⟨e, ?_⟩
  subst e
  have e1 := vl_add (r := r1) s1.ok.p0 s1.ok.p1 (x := A + T1.length + T2.length) (by omega)
  have e2 := vl_add (r := r2) s2.ok.p0 s2.ok.p1 (x := A + T1.length + T2.length) (by omega)
  rw [h _ (by omega), h _ (by omega)] at e1
  omega
/-- from B on the one is nowhere below: the greater values repeat as it does -/
theorem over_turn {B : Nat} (o1 : RuleOk T1 p1 r1) (hB : T1.length - p1 ≤ B) (hL : ∀ x, B ≤ x → vl T2 p2 r2 x ≤ vl T1 p1 r1 x) : ∀ x, B ≤ x → max (vl T1 p1 r1 (x + p1)) (vl T2 p2 r2 (x + p1)) = max (vl T1 p1 r1 x) (vl T2 p2 r2 x) + r1 := by
  intro x hx
  have a := hL x hx
  have b := hL (x + p1) (by omega)
  have c := vl_add o1.p0 o1.p1 (r := r1) (x := x) (by omega)
  omega
/-- the shortest table of the greater values: it ends a period behind the last amount at which the flat one is above -/
theorem over_len {T : List Int} {p L : Nat} {r : Int} (s : Short T p r) (s1 : Short T1 p1 r1) (hv : ∀ x, vl T p r x = max (vl T1 p1 r1 x) (vl T2 p2 r2 x)) (hL : T1.length - p1 ≤ L) (above : vl T1 p1 r1 L < vl T2 p2 r2 L) (behind : ∀ x, L < x → vl T2 p2 r2 x ≤ vl T1 p1 r1 x) :
    p = p1 ∧ r = r1 ∧ T.length = L + 1 + p1 := by
  have far : ∀ x, L + 1 ≤ x → vl T p r x = vl T1 p1 r1 x := fun x hx => by
    rw [hv]
    have := behind x (by omega)
    omega
  obtain ⟨rfl, rfl⟩ := far_turn s s1 far
  refine ⟨rfl, rfl, ?_⟩
  have o := s.ok
  have o1 := s1.ok
  have p0 := o.p0
  have q1 := o.p1
  rcases Nat.lt_trichotomy T.length (L + 1 + p) with l | l | l
  · exfalso
    have a := vl_add (r := r) p0 q1 (x := L) (by omega)
    have b := vl_add (r := r) p0 o1.p1 (x := L) hL
    rw [far (L + p) (by omega), b, hv L] at a
    omega
  · exact l
  · exfalso
    rcases s.start with e | e
    · omega
    · apply e
      have c := far (T.length - 1) (by omega)
      have d := far (T.length - p - 1) (by omega)
      have f := vl_add (r := r) p0 o1.p1 (x := T.length - p - 1) (by omega)
      rw [show T.length - p - 1 + p = T.length - 1 by omega] at f
      rw [c, f, ← d, vl_lt (by omega)]
end
end Sm

set_option linter.all false
set_option maxRecDepth 100000
namespace Sm
/-- the last amount at which d is above 0, or -1 -/
def IsLast (d : Nat → Int) (L : Int) : Prop := (L = -1 ∨ ∃ n : Nat, L = (n : Int) ∧ 0 < d n) ∧ ∀ x : Nat, 0 < d x → (x : Int) ≤ L
def earlyL (d : Nat → Int) (n : Nat) : List Int := ((List.range n).filter fun x => decide (0 < d x)).map fun (x : Nat) => (x : Int)
def lateL (d : Nat → Int) (B t : Nat) (g : Int) (n : Nat) : List Int := ((List.range n).filter fun i => decide (0 < d (B + i))).map fun i => ((B + i : Nat) : Int) + (t : Int) * ((d (B + i) - 1) / g)
theorem down_turns {d : Nat → Int} {B t : Nat} {g : Int} (h : ∀ x, B ≤ x → d (x + t) = d x - g) {x : Nat} (hx : B ≤ x) : ∀ k : Nat, d (x + k * t) = d x - (k : Int) * g
  | 0 => by simp
  | k + 1 => by
    have ih := down_turns h hx k
    rw [show x + (k + 1) * t = x + k * t + t by rw [Nat.add_mul, Nat.one_mul, Nat.add_assoc], h _ (by omega), ih, Int.natCast_add, Int.add_mul]
    simp
    omega
theorem last_of {d : Nat → Int} {B t : Nat} {g M : Int} (t0 : 0 < t) (hg : 0 < g) (h : ∀ x, B ≤ x → d (x + t) = d x - g) (up : ∀ y ∈ earlyL d B ++ lateL d B t g t, y ≤ M) : ∀ x : Nat, 0 < d x → (x : Int) ≤ M := by
  intro x hx
  by_cases q : x < B
  · refine up _ (List.mem_append_left _ (List.mem_map.mpr ⟨x, List.mem_filter.mpr ⟨List.mem_range.mpr q, decide_eq_true hx⟩, rfl⟩))
  · obtain ⟨y, k, h1, h2, rfl⟩ := split_turn t0 (show B ≤ x by omega)
    have e := down_turns h h1 k
    rw [e] at hx
    have k0 : 0 ≤ (k : Int) * g := Int.mul_nonneg (by omega) (by omega)
    have hk : (k : Int) ≤ (d y - 1) / g := (Int.le_ediv_iff_mul_le hg).mpr (by omega)
    have m := up (((B + (y - B) : Nat) : Int) + (t : Int) * ((d (B + (y - B)) - 1) / g)) (List.mem_append_right _ (List.mem_map.mpr ⟨y - B, List.mem_filter.mpr ⟨List.mem_range.mpr (by omega), decide_eq_true (by rw [show B + (y - B) = y by omega]; omega)⟩, rfl⟩))
    rw [show B + (y - B) = y by omega] at m
    have hm : (t : Int) * (k : Int) ≤ (t : Int) * ((d y - 1) / g) := Int.mul_le_mul_of_nonneg_left hk (by omega)
    rw [Int.natCast_add, Int.natCast_mul, Int.mul_comm]
    omega
theorem last_in {d : Nat → Int} {B t : Nat} {g M : Int} (hg : 0 < g) (h : ∀ x, B ≤ x → d (x + t) = d x - g) (hm : M ∈ earlyL d B ++ lateL d B t g t) : ∃ n : Nat, M = (n : Int) ∧ 0 < d n := by
  rcases List.mem_append.mp hm with m | m
  · obtain ⟨x, hx, rfl⟩ := List.mem_map.mp m
    exact ⟨x, rfl, of_decide_eq_true (List.mem_filter.mp hx).2⟩
  · obtain ⟨i, hi, rfl⟩ := List.mem_map.mp m
    have di := of_decide_eq_true (List.mem_filter.mp hi).2
    have q0 : 0 ≤ (d (B + i) - 1) / g := Int.ediv_nonneg (by omega) (by omega)
    refine ⟨B + i + ((d (B + i) - 1) / g).toNat * t, ?_, ?_⟩
    · rw [Int.natCast_add (B + i), Int.natCast_mul, Int.toNat_of_nonneg q0, Int.mul_comm]
    · rw [down_turns h (by omega), Int.toNat_of_nonneg q0]
      have a := Int.mul_ediv_add_emod (d (B + i) - 1) g
      have b := Int.emod_nonneg (d (B + i) - 1) (show g ≠ 0 by omega)
      rw [Int.mul_comm] at a
      omega
theorem last_is {d : Nat → Int} {B t : Nat} {g : Int} (t0 : 0 < t) (hg : 0 < g) (h : ∀ x, B ≤ x → d (x + t) = d x - g) {ns : List Int} (hns : ns = earlyL d B ++ lateL d B t g t) :
    (ns = [] → IsLast d (-1)) ∧ ∀ m, m ∈ ns → (∀ y, y ∈ ns → y ≤ m) → IsLast d m := by
  subst hns
  refine ⟨fun e => ⟨.inl rfl, last_of t0 hg h fun y hy => by rw [e] at hy; exact nomatch hy⟩, fun m hm hle => ⟨.inr (last_in hg h hm), last_of t0 hg h hle⟩⟩
end Sm

set_option maxHeartbeats 4000000
namespace Sm
/-! the two written pairs of rules at the end of the law -/
theorem vl_flat {c : Int} (x : Nat) : vl [c] 1 0 x = c := by
  unfold vl
  split
  · rename_i h
    rw [show x = 0 by simp at h; omega]
    rfl
  · rename_i h
    simp only [List.length_cons, List.length_nil] at h ⊢
    rw [show x - ((x - (0 + 1)) / 1 + 1) * 1 = 0 by rw [Nat.div_one]; omega, Int.mul_zero, Int.add_zero]
    rfl
theorem zeros_at {i n : Nat} : (List.replicate n (0 : Int)).getD i 0 = 0 := by
  rw [List.getD_eq_getElem?_getD, List.getElem?_replicate]
  split <;> rfl
theorem vl_stairs {r : Int} (x : Nat) : vl (List.replicate 40 0) 40 r x = ((x / 40 : Nat) : Int) * r := by
  unfold vl
  rw [List.length_replicate, zeros_at, zeros_at]
  split
  · rename_i h
    rw [show x / 40 = 0 by omega]
    simp
  · rename_i h
    rw [show (x - 40) / 40 + 1 = x / 40 by omega, Int.zero_add]
theorem flat_short {c : Int} (c0 : 0 ≤ c) : Short [c] 1 0 := by
  refine ⟨⟨by decide, Nat.le_refl 1, by decide, fun i hi => ?_, fun i hi => ?_, ?_⟩, fun s c h1 h2 => by omega, .inl rfl⟩
  · simp only [List.length_cons, List.length_nil] at hi
    rw [show i = 0 by omega]
    exact c0
  · simp only [List.length_cons, List.length_nil] at hi
    omega
  · show c ≤ c + 0
    omega
theorem stairs_short {r : Int} (r0 : 0 < r) : Short (List.replicate 40 0) 40 r := by
  refine ⟨⟨by decide, by rw [List.length_replicate]; exact Nat.le_refl _, by omega, fun i hi => ?_, fun i hi => ?_, ?_⟩, fun s c h1 h2 _ h => ?_, .inl (by rw [List.length_replicate])⟩
  · rw [zeros_at]
    exact Int.le_refl _
  · rw [zeros_at, zeros_at]
    exact Int.le_refl _
  · rw [zeros_at, zeros_at]
    omega
  · have a := h 0 (by rw [List.length_replicate]; omega) (by rw [List.length_replicate]; decide)
    have b := h 39 (by rw [List.length_replicate]; omega) (by rw [List.length_replicate]; decide)
    rw [vl_stairs, zeros_at, show (0 + s) / 40 = 0 by omega] at a
    rw [vl_stairs, zeros_at, show (39 + s) / 40 = 1 by omega] at b
    simp at a b
    omega
theorem far_len {T : List Int} {p : Nat} {r : Int} (s : Short T p r) (hv : ∀ x, vl T p r x = max (vl (List.replicate 40 0) 40 1 x) (vl [999999999999] 1 0 x)) : T.length = 40000000000000 := by
  have := over_len (L := 39999999999959) s (stairs_short (r := 1) (by decide)) hv (by rw [List.length_replicate]; omega) (by rw [vl_stairs, vl_flat]; decide) fun x hx => by
    rw [vl_stairs, vl_flat]
    omega
  omega
theorem near_tab {T : List Int} {p : Nat} {r : Int} (s : Short T p r) (hv : ∀ x, vl T p r x = max (vl [4960] 1 0 x) (vl (List.replicate 40 0) 40 40 x)) : T = (List.range 5000).map (fun x => max 4960 (((x / 40 : Nat) : Int) * 40)) ∧ p = 40 ∧ r = 40 := by
  have hv2 : ∀ x, vl T p r x = max (vl (List.replicate 40 0) 40 40 x) (vl [4960] 1 0 x) := fun x => by rw [hv, Int.max_comm]
  obtain ⟨e1, e2, e3⟩ := over_len (L := 4959) s (stairs_short (r := 40) (by decide)) hv2 (by rw [List.length_replicate]; omega) (by rw [vl_stairs, vl_flat]; decide) fun x hx => by
    rw [vl_stairs, vl_flat]
    omega
  refine ⟨List.ext_getElem (by rw [List.length_map, List.length_range]; omega) fun i h1 h2 => ?_, e1, e2⟩
  have h := hv i
  rw [vl_lt h1, vl_flat, vl_stairs, List.getD_eq_getElem?_getD, List.getElem?_eq_getElem h1] at h
  rw [List.getElem_map, List.getElem_range]
  exact h
end Sm

set_option maxHeartbeats 4000000
namespace Sm
/-! each rule has a shortest tuple -/
theorem least_of {Q : Nat → Prop} (h : ∃ n, Q n) : ∃ n, Q n ∧ ∀ m, m < n → ¬ Q m := by
  obtain ⟨n, hn⟩ := h
  induction n using Nat.strongRecOn with
  | _ n ih =>
    by_cases q : ∃ m, m < n ∧ Q m
    · obtain ⟨m, hm, hq⟩ := q
      exact ih m hm hq
    · exact ⟨n, hn, fun m hm hq => q ⟨m, hm, hq⟩⟩
theorem short_is {T : List Int} {p : Nat} {r : Int} (o : RuleOk T p r) : ∃ T' p' r', Short T' p' r' ∧ ∀ x, vl T' p' r' x = vl T p r x := by
  have p0 := o.p0
  have p1 := o.p1
  obtain ⟨s, ⟨s0, sd, c, hc⟩, low⟩ := least_of (Q := fun s => 0 < s ∧ s ∣ p ∧ ∃ c, Rep T p r s c) ⟨p, p0, Nat.dvd_refl p, r, rep_self o⟩
  have sp : s ≤ p := Nat.le_of_dvd p0 sd
  have all := rep_all o hc
  have slope := rep_slope o sd hc
  have c0 : 0 ≤ c := by
    have h1 : 0 ≤ r * (s : Int) := Int.mul_nonneg o.r0 (by omega)
    rw [slope] at h1
    by_cases q : 0 ≤ c
    · exact q
    · have h2 : c * (p : Int) < 0 := Int.mul_neg_of_neg_of_pos (by omega) (by omega)
      omega
  obtain ⟨a, ⟨ha, hall⟩, lowa⟩ := least_of (Q := fun a => a ≤ T.length - p ∧ ∀ y, a ≤ y → vl T p r (y + s) = vl T p r y + c) ⟨T.length - p, Nat.le_refl _, all⟩
  refine ⟨T.take (a + s), s, c, cut_short o s0 sd ha c0 hall (fun s' c' h1 h2 h3 h4 => low s' h2 ⟨h1, h3, c', h4⟩) ?_, cut_vl s0 (by omega) hall⟩
  by_cases z : a = 0
  · exact .inl z
  · refine .inr fun e => lowa (a - 1) (by omega) ⟨by omega, fun y hy => ?_⟩
    by_cases q : y = a - 1
    · rw [q, e, vl_lt (by omega)]
    · exact hall y (by omega)
end Sm

set_option maxHeartbeats 4000000
namespace Sm
/-! the second rule's value at the first one's -/
section
variable {T1 T2 : List Int} {p1 p2 : Nat} {r1 r2 : Int}
def thn (T1 : List Int) (p1 : Nat) (r1 : Int) (T2 : List Int) (p2 : Nat) (r2 : Int) (x : Nat) : Int := vl T2 p2 r2 (vl T1 p1 r1 x).toNat
theorem thn_pos (o2 : RuleOk T2 p2 r2) (x : Nat) : 0 ≤ thn T1 p1 r1 T2 p2 r2 x := o2.pos _
theorem thn_up (o1 : RuleOk T1 p1 r1) (o2 : RuleOk T2 p2 r2) (x : Nat) : thn T1 p1 r1 T2 p2 r2 x ≤ thn T1 p1 r1 T2 p2 r2 (x + 1) := by
  have := o1.up x
  exact o2.le (by omega)
theorem thn_turn {B a b : Nat} (o1 : RuleOk T1 p1 r1) (o2 : RuleOk T2 p2 r2) (hB : T1.length - p1 ≤ B) (hab : (a : Int) * r1 = (b : Int) * (p2 : Int)) (hb : b = 0 ∨ ((T2.length - p2 : Nat) : Int) ≤ vl T1 p1 r1 B) :
    ∀ x, B ≤ x → thn T1 p1 r1 T2 p2 r2 (x + a * p1) = thn T1 p1 r1 T2 p2 r2 x + (b : Int) * r2 := by
  intro x hx
  unfold thn
  have e1 := vl_addk o1.p0 o1.p1 (r := r1) (x := x) (by omega) a
  rw [e1, hab]
  have n1 := o1.pos x
  have up := o1.le hx
  rcases hb with rfl | hb
  · simp
  · have e : (vl T1 p1 r1 x + (b : Int) * (p2 : Int)).toNat = (vl T1 p1 r1 x).toNat + b * p2 := by
      rw [← Int.natCast_mul]
      omega
    rw [e]
    exact vl_addk o2.p0 o2.p1 (r := r2) (by omega) b
/-- the turns that then_rule takes -/
theorem thn_times (p0 : 0 < p2) (r0 : 0 ≤ r1) : 0 < p2 / Nat.gcd p2 r1.natAbs ∧ p2 / Nat.gcd p2 r1.natAbs ≤ p2 ∧ ((p2 / Nat.gcd p2 r1.natAbs : Nat) : Int) * r1 = ((r1.natAbs * (p2 / Nat.gcd p2 r1.natAbs) / p2 : Nat) : Int) * (p2 : Int) := by
  have g0 := Nat.gcd_pos_of_pos_left r1.natAbs p0
  obtain ⟨c, hc⟩ := Nat.gcd_dvd_left p2 r1.natAbs
  obtain ⟨d, hd⟩ := Nat.gcd_dvd_right p2 r1.natAbs
  have e : p2 / Nat.gcd p2 r1.natAbs = c := by
    rw [Nat.div_eq_of_eq_mul_right g0 hc]
  rw [e]
  have c0 : 0 < c := by
    rcases Nat.eq_zero_or_pos c with z | z
    · rw [z, Nat.mul_zero] at hc
      omega
    · exact z
  refine ⟨c0, ?_, ?_⟩
  · rw [← e]
    exact Nat.div_le_self ..
  · generalize Nat.gcd p2 r1.natAbs = g at *
    have m : r1.natAbs * c / p2 = d := by
      rw [hd, hc, show g * d * c = g * c * d by rw [Nat.mul_assoc, Nat.mul_comm d c, Nat.mul_assoc]]
      exact Nat.mul_div_cancel_left _ (Nat.mul_pos g0 c0)
    rw [m]
    have er : r1 = ((g * d : Nat) : Int) := by omega
    rw [er, hc, ← Int.natCast_mul, ← Int.natCast_mul]
    congr 1
    rw [Nat.mul_comm d, Nat.mul_assoc, Nat.mul_left_comm]
end
/-- one step, at the end -/
def stepT (N : Nat) : List Int := List.replicate N 0 ++ [9]
theorem step_len (N : Nat) : (stepT N).length = N + 1 := by
  unfold stepT
  rw [List.length_append, List.length_replicate]
  rfl
theorem step_at {N i : Nat} : (stepT N).getD i 0 = if i = N then 9 else 0 := by
  unfold stepT
  rw [List.getD_eq_getElem?_getD, List.getElem?_append, List.length_replicate]
  split
  · rw [if_neg (by omega), List.getElem?_replicate]
    split <;> rfl
  · split
    · rename_i h
      rw [h, Nat.sub_self]
      rfl
    · rw [List.getElem?_eq_none (by rw [List.length_singleton]; omega)]
      rfl
theorem step_ok {N : Nat} {r : Int} (h : 0 ≤ r) : RuleOk (stepT N) 1 r := by
  have l := step_len N
  refine ⟨by decide, by omega, h, fun i hi => ?_, fun i hi => ?_, ?_⟩
  · rw [step_at]
    split <;> omega
  · rw [step_at, step_at]
    split <;> split <;> omega
  · rw [l, Nat.add_sub_cancel]
    omega
theorem step_vl {N : Nat} (x : Nat) : vl (stepT N) 1 0 x = if x < N then 0 else 9 := by
  have l := step_len N
  unfold vl
  rw [l]
  split
  · rw [step_at]
    split <;> split <;> omega
  · rw [if_neg (by omega), Nat.div_one, Nat.mul_one, show x - (x - (N + 1) + 1) = N by omega, step_at, if_pos rfl, Int.mul_zero, Int.add_zero]
theorem step_short {N : Nat} (h : 0 < N) : Short (stepT N) 1 0 := by
  have l := step_len N
  refine ⟨step_ok (by decide), fun s c h1 h2 => by omega, .inr ?_⟩
  rw [step_vl, step_at, l, if_neg (by omega), if_neg (by omega)]
  decide
end Sm

set_option linter.all false
set_option maxHeartbeats 4000000
namespace Sm
/-! the inverse of a rule that ends rising: the least amounts -/
section
variable {T : List Int} {p : Nat} {r : Int}
theorem lf_is (o : RuleOk T p r) (r0 : 0 < r) (y : Nat) : ∃ i, IsLf T p r (y : Int) (some i) := by
  have far : (y : Int) ≤ vl T p r (T.length + y * p) := by
    have a := vl_addk o.p0 o.p1 (r := r) (x := T.length) (by omega) y
    have c := o.pos T.length
    have d : (y : Int) * 1 ≤ (y : Int) * r := Int.mul_le_mul_of_nonneg_left (by omega) (by omega)
    rw [a]
    omega
  obtain ⟨i, hi, low⟩ := least_of (Q := fun x => (y : Int) ≤ vl T p r x) ⟨_, far⟩
  exact ⟨i, hi, fun z hz => by have := low z hz; omega⟩
noncomputable def lf (T : List Int) (p : Nat) (r : Int) (y : Nat) : Nat :=
  open Classical in if h : ∃ i, IsLf T p r (y : Int) (some i) then Classical.choose h else 0
theorem lf_sp (o : RuleOk T p r) (r0 : 0 < r) (y : Nat) : IsLf T p r (y : Int) (some (lf T p r y)) := by
  have h := lf_is o r0 y
  unfold lf
  rw [dif_pos h]
  exact Classical.choose_spec h
theorem lf_le (o : RuleOk T p r) (r0 : 0 < r) {x y : Nat} : lf T p r y ≤ x ↔ (y : Int) ≤ vl T p r x := by
  obtain ⟨a, b⟩ := lf_sp o r0 y
  constructor
  · intro h
    have := o.le h
    omega
  · intro h
    rcases Nat.lt_or_ge x (lf T p r y) with q | q
    · have := b x q
      omega
    · exact q
theorem lf_up (o : RuleOk T p r) (r0 : 0 < r) (y : Nat) : lf T p r y ≤ lf T p r (y + 1) := by
  rw [lf_le o r0]
  have := (lf_sp o r0 (y + 1)).1
  omega
/-- from where on the inverse repeats: one more than this -/
def invB (T : List Int) (p : Nat) (r : Int) : Int := max (if p < T.length then T.getD (T.length - p - 1) 0 else -1) (T.getD (T.length - 1) 0 - r)
theorem invB_lo (o : RuleOk T p r) : -1 ≤ invB T p r := by
  unfold invB
  split
  · have := o.nn (T.length - p - 1) (by have := o.p0; omega)
    omega
  · omega
theorem inv_begin (o : RuleOk T p r) {x : Nat} (h : invB T p r < vl T p r x) : T.length - p ≤ x := by
  unfold invB at h
  have p0 := o.p0
  rcases Nat.lt_or_ge x (T.length - p) with q | q
  · have := o.le (show x ≤ T.length - p - 1 by omega)
    rw [vl_lt (x := T.length - p - 1) (by omega)] at this
    rw [if_pos (by omega)] at h
    omega
  · exact q
theorem inv_end (o : RuleOk T p r) {x : Nat} (h : invB T p r + r < vl T p r x) : T.length ≤ x := by
  unfold invB at h
  have p0 := o.p0
  have p1 := o.p1
  rcases Nat.lt_or_ge x T.length with q | q
  · have := o.le (show x ≤ T.length - 1 by omega)
    rw [vl_lt (x := T.length - 1) (by omega)] at this
    omega
  · exact q
theorem lf_turn (o : RuleOk T p r) (r0 : 0 < r) {s B : Nat} (hs : (s : Int) = r) (hB : invB T p r < (B : Int)) : ∀ y, B ≤ y → lf T p r (y + s) = lf T p r y + p := by
  intro y hy
  have p0 := o.p0
  have p1 := o.p1
  obtain ⟨a, b⟩ := lf_sp o r0 y
  obtain ⟨c, d⟩ := lf_sp o r0 (y + s)
  have h1 : T.length - p ≤ lf T p r y := inv_begin o (by omega)
  have h2 : T.length ≤ lf T p r (y + s) := inv_end o (by omega)
  have e1 := vl_add p0 p1 (r := r) (x := lf T p r y) h1
  have e2 := vl_add p0 p1 (r := r) (x := lf T p r (y + s) - p) (by omega)
  rw [show lf T p r (y + s) - p + p = lf T p r (y + s) by omega] at e2
  refine Nat.le_antisymm ?_ ?_
  · rw [lf_le o r0]
    omega
  · have : lf T p r y ≤ lf T p r (y + s) - p := by
      rw [lf_le o r0]
      omega
    omega
def invN (T : List Int) (p : Nat) (r : Int) : Nat := (invB T p r + 1).toNat
noncomputable def invT (T : List Int) (p : Nat) (r : Int) : List Int := (List.range (invN T p r + r.toNat)).map fun y => (lf T p r y : Int)
theorem inv_ok (o : RuleOk T p r) (r0 : 0 < r) : RuleOk (invT T p r) r.toNat (p : Int) ∧ ∀ y, vl (invT T p r) r.toNat (p : Int) y = (lf T p r y : Int) := by
  have b := invB_lo o
  have turn : ∀ x, invN T p r ≤ x → ((lf T p r (x + r.toNat) : Nat) : Int) = (lf T p r x : Int) + (p : Int) := fun x hx => by
    rw [lf_turn o r0 (s := r.toNat) (B := invN T p r) (by omega) (by unfold invN; omega) x hx, Int.natCast_add]
  exact ⟨tab_ok (f := fun y => (lf T p r y : Int)) (by omega) (by omega) turn (fun x => by omega) (fun x => by have := lf_up o r0 x; omega), tab_vl (f := fun y => (lf T p r y : Int)) (by omega) turn⟩
theorem invT_len : (invT T p r).length = invN T p r + r.toNat := by
  unfold invT
  rw [List.length_map, List.length_range]
/-- the inverse of the shortest tuple is the shortest of its values -/
theorem inv_short (s : Short T p r) (r0 : 0 < r) : Short (invT T p r) r.toNat (p : Int) := by
  have o := s.ok
  have p0 := o.p0
  have p1 := o.p1
  obtain ⟨oi, hv⟩ := inv_ok o r0
  have bl := invB_lo o
  have ln : (invT T p r).length = invN T p r + r.toNat := invT_len
  refine ⟨oi, fun u c u0 u1 ud rep => ?_, ?_⟩
  · -- no lesser turn
    have all := rep_all oi rep
    have slope := rep_slope oi ud rep
    have c0 : 0 < c := by
      by_cases q : 0 < c
      · exact q
      · have h1 : c * ((r.toNat : Nat) : Int) ≤ 0 := Int.mul_nonpos_of_nonpos_of_nonneg (by omega) (by omega)
        have h2 : 0 < (p : Int) * (u : Int) := Int.mul_pos (by omega) (by omega)
        omega
    have cp : c < (p : Int) := by
      by_cases q : c < (p : Int)
      · exact q
      · have h1 : (p : Int) * (u : Int) < (p : Int) * ((r.toNat : Nat) : Int) := Int.mul_lt_mul_of_pos_left (by omega) (by omega)
        have h2 : (p : Int) * ((r.toNat : Nat) : Int) ≤ c * ((r.toNat : Nat) : Int) := Int.mul_le_mul_of_nonneg_right (by omega) (by omega)
        omega
    obtain ⟨cn, hc⟩ : ∃ cn : Nat, c = (cn : Int) := ⟨c.toNat, (Int.toNat_of_nonneg (by omega)).symm⟩
    subst hc
    have far : ∀ y, invN T p r ≤ y → lf T p r (y + u) = lf T p r y + cn := fun y hy => by
      have := all y (by omega)
      rw [hv, hv] at this
      omega
    -- so the rule itself has a lesser turn
    have back : ∀ x, lf T p r (invN T p r) ≤ x → vl T p r (x + cn) = vl T p r x + (u : Int) := fun x hx => by
      have n0 := o.pos x
      have h1 := (lf_le o r0).mp hx
      obtain ⟨v, hvx⟩ : ∃ v : Nat, vl T p r x = (v : Int) := ⟨(vl T p r x).toNat, (Int.toNat_of_nonneg n0).symm⟩
      have a1 : lf T p r v ≤ x := by
        rw [lf_le o r0]
        omega
      have a2 : x < lf T p r (v + 1) := by
        rcases Nat.lt_or_ge x (lf T p r (v + 1)) with q | q
        · exact q
        · rw [ge_iff_le, lf_le o r0] at q
          omega
      have b1 := far v (by omega)
      have b2 := far (v + 1) (by omega)
      have d1 : ((v + u : Nat) : Int) ≤ vl T p r (x + cn) := by
        rw [← lf_le o r0]
        omega
      have d2 : ¬ ((v + 1 + u : Nat) : Int) ≤ vl T p r (x + cn) := by
        rw [← lf_le o r0]
        omega
      omega
    have key : Nat.gcd p cn = p := by
      obtain ⟨g, hg⟩ := gcd_turn (f := vl T p r) (A := max (lf T p r (invN T p r)) (T.length - p)) _ p cn (Nat.le_refl _) p0 (by omega) ⟨r, fun x hx => vl_add p0 p1 (by omega)⟩ ⟨(u : Int), fun x hx => back x (by omega)⟩
      have gl : Nat.gcd p cn ≤ p := Nat.le_of_dvd p0 (Nat.gcd_dvd_left ..)
      have g0 : 0 < Nat.gcd p cn := Nat.gcd_pos_of_pos_left _ p0
      by_cases q : Nat.gcd p cn = p
      · exact q
      · refine absurd (fun i h1 h2 => ?_) (s.turn (Nat.gcd p cn) g g0 (by omega) (Nat.gcd_dvd_left ..))
        have := rep_down o hg (x := i) h1
        rw [vl_lt h2] at this
        exact this
    have := Nat.le_of_dvd (show 0 < cn by omega) (Nat.gcd_dvd_right p cn)
    omega
  · -- no lesser start
    by_cases z : invN T p r = 0
    · left
      omega
    right
    obtain ⟨y, hy⟩ : ∃ y, invN T p r = y + 1 := ⟨invN T p r - 1, by omega⟩
    have yb : (y : Int) = invB T p r := by
      unfold invN at hy
      omega
    have g : (invT T p r).getD y 0 = (lf T p r y : Int) := by
      rw [← vl_lt (p := r.toNat) (r := (p : Int)) (by omega), hv]
    rw [ln, hv, hy, show y + 1 + r.toNat - 1 = y + r.toNat by omega, show y + 1 + r.toNat - r.toNat - 1 = y by omega, g]
    intro e
    have e : lf T p r (y + r.toNat) = lf T p r y + p := by omega
    obtain ⟨a, b⟩ := lf_sp o r0 y
    obtain ⟨c, d⟩ := lf_sp o r0 (y + r.toNat)
    have wrap := o.wrap
    unfold invB at yb
    by_cases q : p < T.length
    · rw [if_pos q] at yb
      have st := s.start
      rcases st with w | w
      · omega
      rw [vl_lt (by omega)] at w
      rcases Int.lt_or_le (T.getD (T.length - 1) 0 - r) (T.getD (T.length - p - 1) 0) with h | h
      · -- the one before
        have l1 : lf T p r y ≤ T.length - p - 1 := by
          rw [lf_le o r0, vl_lt (by omega)]
          omega
        have l2 : T.length ≤ lf T p r (y + r.toNat) := by
          rcases Nat.lt_or_ge (lf T p r (y + r.toNat)) T.length with q2 | q2
          · have := o.le (show lf T p r (y + r.toNat) ≤ T.length - 1 by omega)
            rw [vl_lt (x := T.length - 1) (by omega)] at this
            omega
          · exact q2
        omega
      · -- the one behind
        have l1 : T.length - p ≤ lf T p r y := by
          rcases Nat.lt_or_ge (lf T p r y) (T.length - p) with q2 | q2
          · have := o.le (show lf T p r y ≤ T.length - p - 1 by omega)
            rw [vl_lt (x := T.length - p - 1) (by omega)] at this
            omega
          · exact q2
        have l2 : lf T p r (y + r.toNat) ≤ T.length - 1 := by
          rw [lf_le o r0, vl_lt (by omega)]
          omega
        omega
    · rw [if_neg q] at yb
      have l2 : lf T p r (y + r.toNat) ≤ T.length - 1 := by
        rw [lf_le o r0, vl_lt (by omega)]
        omega
      omega
end
end Sm

set_option linter.all false
set_option maxHeartbeats 4000000
namespace Sm
/-- a shortest tuple is no longer than any other of the same values -/
theorem short_len {T T2 : List Int} {p p2 : Nat} {r r2 : Int} (s : Short T p r) (o2 : RuleOk T2 p2 r2) (h : ∀ x, vl T p r x = vl T2 p2 r2 x) : T.length ≤ T2.length := by
  have o := s.ok
  have p0 := o.p0
  have p1 := o.p1
  have q0 := o2.p0
  have q1 := o2.p1
  have g := short_le s o2 h
  have hd : p ≤ p2 := Nat.le_of_dvd q0 (by
    have := Nat.gcd_dvd_right p p2
    rwa [g] at this)
  rcases Nat.lt_or_ge T2.length T.length with q | q
  · exfalso
    rcases s.start with e | e
    · omega
    · have far : ∀ x, T.length - p ≤ x → vl T2 p2 r2 (x + p) = vl T2 p2 r2 x + r := fun x hx => by
        rw [← h, ← h]
        exact vl_add p0 p1 hx
      by_cases z : p = T.length
      · omega
      · have := rep_down o2 far (x := T.length - p - 1) (by omega)
        rw [← h, ← h, show T.length - p - 1 + p = T.length - 1 by omega, vl_lt (x := T.length - p - 1) (by omega)] at this
        exact e this
  · exact q
section
variable {T T1 T2 Tc : List Int} {p p1 p2 pc : Nat} {r r1 r2 rc : Int}
/-- the inverse's inverse -/
theorem lf_inv (o : RuleOk T p r) (r0 : 0 < r) (x : Nat) : lf (invT T p r) r.toNat (p : Int) x = if x = 0 then 0 else (vl T p r (x - 1) + 1).toNat := by
  obtain ⟨oi, hv⟩ := inv_ok o r0
  have p0 : (0 : Int) < (p : Int) := by have := o.p0; omega
  have key : ∀ y, lf (invT T p r) r.toNat (p : Int) x ≤ y ↔ x ≤ lf T p r y := fun y => by
    rw [lf_le oi p0, hv]
    omega
  split
  · rename_i h
    have := (key 0).mpr (by omega)
    omega
  · rename_i h
    have n := o.pos (x - 1)
    have a : lf (invT T p r) r.toNat (p : Int) x ≤ (vl T p r (x - 1) + 1).toNat := by
      rw [key]
      rcases Nat.lt_or_ge (lf T p r (vl T p r (x - 1) + 1).toNat) x with q | q
      · have : lf T p r (vl T p r (x - 1) + 1).toNat ≤ x - 1 := by omega
        rw [lf_le o r0] at this
        omega
      · exact q
    have b : ¬ lf (invT T p r) r.toNat (p : Int) x ≤ (vl T p r (x - 1)).toNat := by
      rw [key]
      intro q
      have : lf T p r (vl T p r (x - 1)).toNat ≤ x - 1 := by
        rw [lf_le o r0]
        omega
      omega
    omega
/-- the inverse of one rule behind another -/
theorem lf_thn (o1 : RuleOk T1 p1 r1) (o2 : RuleOk T2 p2 r2) (oc : RuleOk Tc pc rc) (r10 : 0 < r1) (r20 : 0 < r2) (rc0 : 0 < rc) (hv : ∀ x, vl Tc pc rc x = thn T1 p1 r1 T2 p2 r2 x) (y : Nat) : lf Tc pc rc y = lf T1 p1 r1 (lf T2 p2 r2 y) := by
  have key : ∀ x, lf Tc pc rc y ≤ x ↔ lf T1 p1 r1 (lf T2 p2 r2 y) ≤ x := fun x => by
    have n := o1.pos x
    rw [lf_le oc rc0, hv, lf_le o1 r10]
    unfold thn
    rw [← lf_le o2 r20]
    omega
  have a := (key _).mp (Nat.le_refl _)
  have b := (key _).mpr (Nat.le_refl _)
  omega
theorem thn_rises (o1 : RuleOk T1 p1 r1) (o2 : RuleOk T2 p2 r2) (oc : RuleOk Tc pc rc) (r10 : 0 < r1) (r20 : 0 < r2) (hv : ∀ x, vl Tc pc rc x = thn T1 p1 r1 T2 p2 r2 x) : 0 < rc := by
  have rc0 := oc.r0
  by_cases z : rc = 0
  · exfalso
    obtain ⟨B, hB⟩ : ∃ B, B = T1.length + T2.length * p1 + Tc.length := ⟨_, rfl⟩
    have reach : ((T2.length - p2 : Nat) : Int) ≤ vl T1 p1 r1 B := by
      have a := vl_addk o1.p0 o1.p1 (r := r1) (x := T1.length) (by omega) T2.length
      have b := o1.le (show T1.length + T2.length * p1 ≤ B by omega)
      have c := o1.pos T1.length
      have d : (T2.length : Int) * 1 ≤ (T2.length : Int) * r1 := Int.mul_le_mul_of_nonneg_left (by omega) (by omega)
      omega
    have t := thn_turn (B := B) (a := p2) (b := r1.toNat) o1 o2 (by omega) (by rw [Int.toNat_of_nonneg (by omega), Int.mul_comm]) (.inr reach) B (Nat.le_refl _)
    have u := vl_addk oc.p0 oc.p1 (r := rc) (x := B) (by omega) (p2 * p1)
    have m : B + p2 * p1 ≤ B + p2 * p1 * pc := by
      have := Nat.le_mul_of_pos_right (p2 * p1) oc.p0
      omega
    have w := oc.le m
    rw [u, hv, hv, t] at w
    rw [z, Int.mul_zero, Int.add_zero] at w
    have : 0 < ((r1.toNat : Nat) : Int) * r2 := Int.mul_pos (by omega) r20
    omega
  · omega
/-- the rule behind its inverse, the inverse behind the rule -/
theorem over_ge (o : RuleOk T p r) (r0 : 0 < r) (y : Nat) : (y : Int) ≤ thn (invT T p r) r.toNat (p : Int) T p r y := by
  unfold thn
  rw [(inv_ok o r0).2, Int.toNat_natCast]
  exact (lf_sp o r0 y).1
theorem under_le (o : RuleOk T p r) (r0 : 0 < r) (x : Nat) : thn T p r (invT T p r) r.toNat (p : Int) x ≤ (x : Int) := by
  unfold thn
  rw [(inv_ok o r0).2]
  have n := o.pos x
  have : lf T p r (vl T p r x).toNat ≤ x := by
    rw [lf_le o r0]
    omega
  omega
theorem plain_vl (x : Nat) : vl [0] 1 1 x = (x : Int) := by
  unfold vl
  split
  · rename_i h
    simp at h
    rw [h]
    rfl
  · rename_i h
    simp at h
    rw [Nat.div_one, Nat.mul_one, List.length_singleton, show x - (x - 1 + 1) = 0 by omega, show x - 1 + 1 = x by omega, Int.mul_one]
    simp
theorem plain_short : Short [0] 1 1 := by
  refine ⟨⟨by decide, by decide, by decide, fun i hi => ?_, fun i hi => ?_, by decide⟩, fun s c h1 h2 => by omega, .inl rfl⟩
  · have hi : i < 1 := hi
    rw [show i = 0 by omega]
    decide
  · have hi : i + 1 < 1 := hi
    omega
/-- how long the tables are -/
theorem inv_over (s : Short Tc pc rc) (o : RuleOk T p r) (r0 : 0 < r) (hv : ∀ x, vl Tc pc rc x = thn (invT T p r) r.toNat (p : Int) T p r x) : Tc.length ≤ invN T p r + r.toNat := by
  obtain ⟨oi, hi⟩ := inv_ok o r0
  have bl := invB_lo o
  have t := thn_turn (B := invN T p r) (a := 1) (b := 1) oi o (by rw [invT_len]; omega) (by omega) (.inr (by
    rw [hi]
    have := inv_begin o (x := lf T p r (invN T p r)) (by have := (lf_sp o r0 (invN T p r)).1; unfold invN at *; omega)
    omega))
  have t : ∀ x, invN T p r ≤ x → thn (invT T p r) r.toNat (p : Int) T p r (x + r.toNat) = thn (invT T p r) r.toNat (p : Int) T p r x + r := fun x hx => by
    have := t x hx
    rw [Nat.one_mul] at this
    rw [this]
    omega
  have ok := tab_ok (f := thn (invT T p r) r.toNat (p : Int) T p r) (B := invN T p r) (t := r.toNat) (R := r) (by omega) (by omega) t (thn_pos o) (thn_up oi o)
  have := short_len s ok fun x => by rw [hv, tab_vl (f := thn (invT T p r) r.toNat (p : Int) T p r) (by omega) t]
  rwa [tab_len] at this
theorem inv_under (s : Short Tc pc rc) (o : RuleOk T p r) (r0 : 0 < r) (hv : ∀ x, vl Tc pc rc x = thn T p r (invT T p r) r.toNat (p : Int) x) : Tc.length ≤ T.length + p := by
  obtain ⟨oi, hi⟩ := inv_ok o r0
  have p0 := o.p0
  have p1 := o.p1
  have t := thn_turn (B := T.length) (a := 1) (b := 1) o oi (by omega) (by omega) (.inr (by
    rw [invT_len]
    have a := vl_add p0 p1 (r := r) (x := T.length - p) (Nat.le_refl _)
    rw [show T.length - p + p = T.length by omega] at a
    have a2 : vl T p r (T.length - p) = T.getD (T.length - p) 0 := vl_lt (by omega)
    have wrap := o.wrap
    have : invB T p r < vl T p r T.length := by
      unfold invB
      split
      · have := o.row (show T.length - p - 1 ≤ T.length - p by omega) (by omega)
        omega
      · have := o.pos T.length
        have g := o.nn (T.length - p) (by omega)
        omega
    have nn := o.pos T.length
    unfold invN
    omega))
  have t : ∀ x, T.length ≤ x → thn T p r (invT T p r) r.toNat (p : Int) (x + p) = thn T p r (invT T p r) r.toNat (p : Int) x + (p : Int) := fun x hx => by
    have := t x hx
    rw [Nat.one_mul] at this
    rw [this]
    omega
  have ok := tab_ok (f := thn T p r (invT T p r) r.toNat (p : Int)) (B := T.length) (t := p) (R := (p : Int)) p0 (by omega) t (thn_pos oi) (thn_up o oi)
  have := short_len s ok fun x => by rw [hv, tab_vl (f := thn T p r (invT T p r) r.toNat (p : Int)) p0 t]
  rwa [tab_len] at this
theorem thn_len (s : Short Tc pc rc) (o1 : RuleOk T1 p1 r1) (o2 : RuleOk T2 p2 r2) (r10 : 0 < r1) (hv : ∀ x, vl Tc pc rc x = thn T1 p1 r1 T2 p2 r2 x) : Tc.length ≤ T1.length + T2.length * p1 + p2 * p1 := by
  have reach : ((T2.length - p2 : Nat) : Int) ≤ vl T1 p1 r1 (T1.length + T2.length * p1) := by
    have a := vl_addk o1.p0 o1.p1 (r := r1) (x := T1.length) (by omega) T2.length
    have c := o1.pos T1.length
    have d : (T2.length : Int) * 1 ≤ (T2.length : Int) * r1 := Int.mul_le_mul_of_nonneg_left (by omega) (by omega)
    omega
  have t := thn_turn (B := T1.length + T2.length * p1) (a := p2) (b := r1.toNat) o1 o2 (by omega) (by rw [Int.toNat_of_nonneg (by omega), Int.mul_comm]) (.inr reach)
  have t0 : 0 < p2 * p1 := Nat.mul_pos o2.p0 o1.p0
  have R0 : 0 ≤ ((r1.toNat : Nat) : Int) * r2 := Int.mul_nonneg (by omega) o2.r0
  have ok := tab_ok (f := thn T1 p1 r1 T2 p2 r2) t0 R0 t (thn_pos o2) (thn_up o1 o2)
  have := short_len s ok fun x => by rw [hv, tab_vl (f := thn T1 p1 r1 T2 p2 r2) t0 t]
  rwa [tab_len] at this
theorem lf_small (o : RuleOk T p r) (r0 : 0 < r) (y : Nat) : lf T p r y ≤ T.length + y * p := by
  rw [lf_le o r0]
  have a := vl_addk o.p0 o.p1 (r := r) (x := T.length) (by omega) y
  have c := o.pos T.length
  have d : (y : Int) * 1 ≤ (y : Int) * r := Int.mul_le_mul_of_nonneg_left (by omega) (by omega)
  rw [a]
  omega
end
end Sm

set_option linter.all false
set_option maxHeartbeats 4000000
namespace Sm
/-! the best parting of an amount between two rules -/
def IsC (f g : Nat → Int) (n x : Nat) (v : Int) : Prop := (∃ a, a < n ∧ a ≤ x ∧ v = f a + g (x - a)) ∧ ∀ a, a < n → a ≤ x → f a + g (x - a) ≤ v
theorem IsC.one {f g : Nat → Int} {n x : Nat} {v w : Int} (h : IsC f g n x v) (k : IsC f g n x w) : v = w := by
  obtain ⟨⟨a, a1, a2, a3⟩, h2⟩ := h
  obtain ⟨⟨b, b1, b2, b3⟩, k2⟩ := k
  have := h2 b b1 b2
  have := k2 a a1 a2
  omega
theorem IsC.swap {f g : Nat → Int} {x : Nat} {v : Int} (h : IsC f g (x + 1) x v) : IsC g f (x + 1) x v := by
  obtain ⟨⟨a, a1, a2, a3⟩, h2⟩ := h
  refine ⟨⟨x - a, by omega, by omega, ?_⟩, fun b b1 b2 => ?_⟩
  · rw [show x - (x - a) = a by omega]
    omega
  · have := h2 (x - b) (by omega) (by omega)
    rw [show x - (x - b) = b by omega] at this
    omega
def cm (f g : Nat → Int) (x : Nat) : Nat → Int
  | 0 => f 0 + g x
  | k + 1 => if k + 1 ≤ x then max (cm f g x k) (f (k + 1) + g (x - (k + 1))) else cm f g x k
theorem cm_is (f g : Nat → Int) (x : Nat) : ∀ k, IsC f g (k + 1) x (cm f g x k)
  | 0 => ⟨⟨0, by omega, by omega, rfl⟩, fun a h1 h2 => by
      rw [show a = 0 by omega]
      exact Int.le_refl _⟩
  | k + 1 => by
    obtain ⟨⟨a, a1, a2, a3⟩, h2⟩ := cm_is f g x k
    unfold cm
    split
    · rename_i hk
      constructor
      · by_cases q : cm f g x k ≤ f (k + 1) + g (x - (k + 1))
        · exact ⟨k + 1, by omega, hk, by omega⟩
        · exact ⟨a, by omega, a2, by omega⟩
      · intro b b1 b2
        by_cases e : b = k + 1
        · subst e
          omega
        · have := h2 b (by omega) b2
          omega
    · rename_i hk
      refine ⟨⟨a, by omega, a2, a3⟩, fun b b1 b2 => h2 b (by omega) b2⟩
/-- what rises by r each p places from b on -/
structure Pd (f : Nat → Int) (b p : Nat) (r : Int) : Prop where
  p0 : 0 < p
  r0 : 0 ≤ r
  up : ∀ x, f x ≤ f (x + 1)
  nn : ∀ x, 0 ≤ f x
  turn : ∀ x, b ≤ x → f (x + p) = f x + r
theorem RuleOk.pd {T : List Int} {p : Nat} {r : Int} (o : RuleOk T p r) : Pd (vl T p r) (T.length - p) p r := ⟨o.p0, o.r0, o.up, o.pos, fun _ h => vl_add o.p0 o.p1 h⟩
section
variable {f g : Nat → Int} {b p c q : Nat} {r t : Int}
theorem Pd.le (h : Pd f b p r) : ∀ {x y}, x ≤ y → f x ≤ f y := by
  intro x y e
  obtain ⟨k, rfl⟩ := Nat.le.dest e
  clear e
  induction k with
  | zero => exact Int.le_refl _
  | succ k ih => exact Int.le_trans ih (h.up (x + k))
theorem Pd.turnk (h : Pd f b p r) {x : Nat} (hx : b ≤ x) : ∀ k, f (x + k * p) = f x + (k : Int) * r
  | 0 => by simp
  | k + 1 => by
    rw [Nat.succ_mul, ← Nat.add_assoc, h.turn _ (by omega), h.turnk hx k]
    rw [show ((k + 1 : Nat) : Int) = (k : Int) + 1 from rfl, Int.add_mul, Int.one_mul]
    omega
theorem cm_up (hg : Pd g c q t) (x k : Nat) : cm f g x k ≤ cm f g (x + 1) k := by
  obtain ⟨⟨a, a1, a2, a3⟩, _⟩ := cm_is f g x k
  have := (cm_is f g (x + 1) k).2 a a1 (by omega)
  have u := hg.le (show x - a ≤ x + 1 - a by omega)
  omega
theorem cm_pos (hf : ∀ x, 0 ≤ f x) (hg : ∀ x, 0 ≤ g x) (x k : Nat) : 0 ≤ cm f g x k := by
  have := (cm_is f g x k).2 0 (by omega) (by omega)
  have := hf 0
  have := hg (x - 0)
  omega
theorem cm_turn (hg : Pd g c q t) {x k : Nat} (hx : k + c ≤ x) : cm f g (x + q) k = cm f g x k + t := by
  obtain ⟨⟨a, a1, a2, a3⟩, h⟩ := cm_is f g x k
  obtain ⟨⟨d, d1, d2, d3⟩, e⟩ := cm_is f g (x + q) k
  have h1 := h d d1 (by omega)
  have h2 := e a a1 (by omega)
  rw [show x + q - a = x - a + q by omega, hg.turn _ (by omega)] at h2
  rw [show x + q - d = x - d + q by omega, hg.turn _ (by omega)] at d3
  omega
theorem cm_pd (hf : Pd f b p r) (hg : Pd g c q t) (k : Nat) : Pd (fun x => cm f g x k) (k + c) q t := ⟨hg.p0, hg.r0, fun x => cm_up hg x k, fun x => cm_pos hf.nn hg.nn x k, fun _ hx => cm_turn hg hx⟩
end
section
variable {f s : Nat → Int} {bf pf bs ps : Nat} {rf rs : Int}
/-- the common turn: its rises -/
theorem turns {L : Nat} (hf : Pd f bf pf rf) (hs : Pd s bs ps rs) (h1 : pf ∣ L) (h2 : ps ∣ L) (sl : rf * (ps : Int) ≤ rs * (pf : Int)) : ∃ F S : Int, F ≤ S ∧ (∀ x, bf ≤ x → f (x + L) = f x + F) ∧ ∀ x, bs ≤ x → s (x + L) = s x + S := by
  obtain ⟨kf, e1⟩ := h1
  obtain ⟨ks, e2⟩ := h2
  refine ⟨(kf : Int) * rf, (ks : Int) * rs, ?_, fun x hx => ?_, fun x hx => ?_⟩
  · have p0 := hs.p0
    have a : (kf : Int) * rf * (ps : Int) ≤ (ks : Int) * rs * (ps : Int) := by
      have h : (kf : Int) * (rf * (ps : Int)) ≤ (kf : Int) * (rs * (pf : Int)) := Int.mul_le_mul_of_nonneg_left sl (by omega)
      have e : (kf : Int) * (rs * (pf : Int)) = (ks : Int) * rs * (ps : Int) := by
        have e3 : (kf : Int) * (pf : Int) = (ks : Int) * (ps : Int) := by
          have : kf * pf = ks * ps := by rw [Nat.mul_comm, ← e1, e2, Nat.mul_comm]
          exact_mod_cast this
        rw [Int.mul_left_comm, e3, Int.mul_left_comm, Int.mul_assoc]
      rw [Int.mul_assoc, ← e]
      exact h
    exact Int.le_of_mul_le_mul_right a (by omega)
  · rw [e1, Nat.mul_comm]
    exact hf.turnk hx kf
  · rw [e2, Nat.mul_comm]
    exact hs.turnk hx ks
/-- the flat part, where the steep one is in its turns -/
theorem flat_part {L : Nat} (L0 : 0 < L) {F S : Int} (FS : F ≤ S) (hf : ∀ x, bf ≤ x → f (x + L) = f x + F) (hs : ∀ x, bs ≤ x → s (x + L) = s x + S) (x : Nat) : ∀ a, a ≤ x → bs ≤ x - a → f a + s (x - a) ≤ cm f s x (bf + L - 1) := by
  intro a
  induction a using Nat.strongRecOn with
  | _ a ih =>
    intro ha hb
    by_cases q : a < bf + L
    · exact (cm_is f s x (bf + L - 1)).2 a (by omega) ha
    · have := ih (a - L) (by omega) (by omega) (by omega)
      have e1 := hf (a - L) (by omega)
      have e2 := hs (x - a) hb
      rw [show a - L + L = a by omega] at e1
      rw [show x - a + L = x - (a - L) by omega] at e2
      omega
theorem split_all {L : Nat} (L0 : 0 < L) {F S : Int} (FS : F ≤ S) (hf : ∀ x, bf ≤ x → f (x + L) = f x + F) (hs : ∀ x, bs ≤ x → s (x + L) = s x + S) (z : bs = 0) (x : Nat) : IsC f s (x + 1) x (cm f s x (bf + L - 1)) := by
  obtain ⟨⟨a, a1, a2, a3⟩, _⟩ := cm_is f s x (bf + L - 1)
  exact ⟨⟨a, by omega, a2, a3⟩, fun b _ b2 => flat_part L0 FS hf hs x b b2 (by omega)⟩
theorem split_both {L : Nat} (L0 : 0 < L) {F S : Int} (FS : F ≤ S) (hf : ∀ x, bf ≤ x → f (x + L) = f x + F) (hs : ∀ x, bs ≤ x → s (x + L) = s x + S) (z : 0 < bs) (x : Nat) : IsC f s (x + 1) x (max (cm s f x (bs - 1)) (cm f s x (bf + L - 1))) := by
  obtain ⟨⟨a, a1, a2, a3⟩, _⟩ := cm_is f s x (bf + L - 1)
  obtain ⟨⟨c, c1, c2, c3⟩, h⟩ := cm_is s f x (bs - 1)
  constructor
  · by_cases q : cm s f x (bs - 1) ≤ cm f s x (bf + L - 1)
    · exact ⟨a, by omega, a2, by omega⟩
    · exact ⟨x - c, by omega, by omega, by rw [show x - (x - c) = c by omega]; omega⟩
  · intro b _ b2
    by_cases q : bs ≤ x - b
    · have := flat_part L0 FS hf hs x b b2 q
      omega
    · have := h (x - b) (by omega) (by omega)
      rw [show x - (x - b) = b by omega] at this
      omega
/-- far off the steep one is in its turns -/
theorem split_far {L : Nat} (hf : Pd f bf pf rf) (hs : Pd s bs ps rs) (L0 : 0 < L) (h1 : pf ∣ L) (h2 : ps ∣ L) (sl : rf * (ps : Int) < rs * (pf : Int)) (z : 0 < bs) {S X : Nat} (hS : (S : Int) = rs * (pf : Int)) (hX : bs + bf + (bs + ps * pf) * S ≤ X) : cm s f X (bs - 1) ≤ cm f s X (bf + L - 1) := by
  obtain ⟨F', S', FS, tf, ts⟩ := turns hf hs h1 h2 (by omega)
  obtain ⟨⟨a, a1, a2, a3⟩, _⟩ := cm_is s f X (bs - 1)
  have pp : 0 < ps * pf := Nat.mul_pos hs.p0 hf.p0
  obtain ⟨P, hP⟩ : ∃ P, P = ps * pf := ⟨_, rfl⟩
  rw [← hP] at pp hX
  obtain ⟨m, hm⟩ : ∃ m, m = (bs - 1) / P + 1 := ⟨_, rfl⟩
  have m1 : bs ≤ m * P := by
    have := Nat.div_add_mod (bs - 1) P
    have := Nat.mod_lt (bs - 1) pp
    rw [hm, Nat.add_mul, Nat.one_mul, Nat.mul_comm]
    omega
  have m2 : m * P ≤ bs + P := by
    have := Nat.div_mul_le_self (bs - 1) P
    rw [hm, Nat.add_mul, Nat.one_mul]
    omega
  have S0 : 0 < S := by
    have r0 := hf.r0
    have : 0 ≤ rf * (ps : Int) := Int.mul_nonneg r0 (by omega)
    omega
  have km : m ≤ m * S := Nat.le_mul_of_pos_right m S0
  have kP : m * S * P ≤ (bs + P) * S := by
    rw [Nat.mul_right_comm]
    exact Nat.mul_le_mul_right S m2
  have kP2 : m * P ≤ m * S * P := Nat.mul_le_mul_right P km
  -- the flat part's fall
  have e1 : f (X - a - m * S * P + m * S * P) = f (X - a - m * S * P) + ((m * S * ps : Nat) : Int) * rf := by
    have := hf.turnk (x := X - a - m * S * P) (by omega) (m * S * ps)
    rw [Nat.mul_assoc (m * S) ps pf, ← hP] at this
    exact this
  -- the steep part's rise
  have e2 : s (a + m * P + (m * S - m) * P) = s (a + m * P) + (((m * S - m) * pf : Nat) : Int) * rs := by
    have := hs.turnk (x := a + m * P) (by omega) ((m * S - m) * pf)
    rw [Nat.mul_assoc (m * S - m) pf ps, Nat.mul_comm pf ps, ← hP] at this
    exact this
  have e3 : a + m * P + (m * S - m) * P = X - (X - a - m * S * P) := by
    rw [Nat.sub_mul]
    omega
  have e4 := hs.le (show a ≤ a + m * P by omega)
  have e5 := flat_part L0 FS tf ts X (X - a - m * S * P) (by omega) (by omega)
  rw [e3] at e2
  rw [show X - a - m * S * P + m * S * P = X - a by omega] at e1
  -- k (S - F) ≥ m S
  have e6 : ((m * S * ps : Nat) : Int) * rf ≤ (((m * S - m) * pf : Nat) : Int) * rs := by
    have i1 : ((m * S * ps : Nat) : Int) * rf = (m : Int) * (S : Int) * (rf * (ps : Int)) := by
      rw [Int.natCast_mul, Int.natCast_mul, Int.mul_assoc, Int.mul_comm (ps : Int) rf]
    have i2 : (((m * S - m) * pf : Nat) : Int) * rs = ((m : Int) * (S : Int) - (m : Int)) * (S : Int) := by
      rw [Int.natCast_mul, Int.natCast_sub km, Int.natCast_mul, Int.mul_assoc, Int.mul_comm (pf : Int) rs, ← hS]
    rw [i1, i2, Int.sub_mul]
    have i3 : (m : Int) * (S : Int) * (rf * (ps : Int)) ≤ (m : Int) * (S : Int) * ((S : Int) - 1) := Int.mul_le_mul_of_nonneg_left (by omega) (Int.mul_nonneg (by omega) (by omega))
    rw [Int.mul_sub, Int.mul_one] at i3
    exact i3
  omega
/-- the rule of the best partings, and how long it is -/
theorem split_is {L : Nat} (hf : Pd f bf pf rf) (hs : Pd s bs ps rs) (L0 : 0 < L) (h1 : pf ∣ L) (h2 : ps ∣ L) (sl : rf * (ps : Int) ≤ rs * (pf : Int)) (z : 0 < bs) : ∃ T p r, Short T p r ∧ (∀ x, vl T p r x = max (cm s f x (bs - 1)) (cm f s x (bf + L - 1))) ∧ T.length ≤ 2 * bs + 2 * bf + L + ps * pf + ps + (bs + ps * pf) * (rs * (pf : Int)).toNat := by
  have m1 : Pd (fun x => cm f s x (bf + L - 1)) (bf + L - 1 + bs) ps rs := cm_pd hf hs (bf + L - 1)
  have m2 : Pd (fun x => cm s f x (bs - 1)) (bs - 1 + bf) pf rf := cm_pd hs hf (bs - 1)
  have up : ∀ x, max (cm s f x (bs - 1)) (cm f s x (bf + L - 1)) ≤ max (cm s f (x + 1) (bs - 1)) (cm f s (x + 1) (bf + L - 1)) := fun x => by
    have := m1.up x
    have := m2.up x
    omega
  have nn : ∀ x, 0 ≤ max (cm s f x (bs - 1)) (cm f s x (bf + L - 1)) := fun x => by
    have := m1.nn x
    omega
  have fin : ∀ (B t : Nat) (R : Int), 0 < t → 0 ≤ R → (∀ x, B ≤ x → max (cm s f (x + t) (bs - 1)) (cm f s (x + t) (bf + L - 1)) = max (cm s f x (bs - 1)) (cm f s x (bf + L - 1)) + R) → ∃ T p r, Short T p r ∧ (∀ x, vl T p r x = max (cm s f x (bs - 1)) (cm f s x (bf + L - 1))) ∧ T.length ≤ B + t := fun B t R t0 R0 turn => by
    have o := tab_ok (f := fun x => max (cm s f x (bs - 1)) (cm f s x (bf + L - 1))) t0 R0 turn nn up
    obtain ⟨T, p, r, sh, e⟩ := short_is o
    have l := short_len sh o e
    rw [tab_len] at l
    exact ⟨T, p, r, sh, fun x => by rw [e, tab_vl (f := fun x => max (cm s f x (bs - 1)) (cm f s x (bf + L - 1))) t0 turn], l⟩
  by_cases q : rf * (ps : Int) < rs * (pf : Int)
  · have S0 : 0 ≤ rf * (ps : Int) := Int.mul_nonneg hf.r0 (by omega)
    obtain ⟨X, hX⟩ : ∃ X, X = bs + bf + (bs + ps * pf) * (rs * (pf : Int)).toNat := ⟨_, rfl⟩
    obtain ⟨T, p, r, sh, e, l⟩ := fin (X + (bf + L - 1 + bs)) ps rs hs.p0 hs.r0 fun x hx => by
      have a := split_far hf hs L0 h1 h2 q z (S := (rs * (pf : Int)).toNat) (X := x) (by omega) (by omega)
      have b := split_far hf hs L0 h1 h2 q z (S := (rs * (pf : Int)).toNat) (X := x + ps) (by omega) (by omega)
      have c := m1.turn x (by omega)
      omega
    exact ⟨T, p, r, sh, e, by omega⟩
  · have e0 : rf * (ps : Int) = rs * (pf : Int) := by omega
    obtain ⟨T, p, r, sh, e, l⟩ := fin (bf + L - 1 + bs + (bs - 1 + bf)) (ps * pf) (rs * (pf : Int)) (Nat.mul_pos hs.p0 hf.p0) (Int.mul_nonneg hs.r0 (by omega)) fun x hx => by
      have a := m1.turnk (x := x) (by omega) pf
      have b := m2.turnk (x := x) (by omega) ps
      rw [Nat.mul_comm, Int.mul_comm] at a
      rw [Int.mul_comm, e0] at b
      omega
    exact ⟨T, p, r, sh, e, by omega⟩
end
/-- slopes of rules of the same values -/
theorem slope_eq {T T' : List Int} {p p' : Nat} {r r' : Int} (o : RuleOk T p r) (o' : RuleOk T' p' r') (hv : ∀ x, vl T' p' r' x = vl T p r x) : r' * (p : Int) = r * (p' : Int) := by
  have e1 := vl_addk o'.p0 o'.p1 (r := r') (x := T.length + T'.length) (by omega) p
  have e2 := vl_addk o.p0 o.p1 (r := r) (x := T.length + T'.length) (by omega) p'
  rw [hv, hv, Nat.mul_comm, e2] at e1
  rw [Int.mul_comm, Int.mul_comm r]
  omega
theorem slope_le {p p' : Nat} {r r' C : Int} (p0 : 0 < p) (e : r' * (p : Int) = r * (p' : Int)) (h : r ≤ C * (p : Int)) : r' ≤ C * (p' : Int) := by
  have a : r * (p' : Int) ≤ C * (p : Int) * (p' : Int) := Int.mul_le_mul_of_nonneg_right h (by omega)
  rw [← e, Int.mul_right_comm] at a
  exact Int.le_of_mul_le_mul_right a (by omega)
/-- a shortest tuple's turns begin no later -/
theorem begin_le {T T' : List Int} {p p' : Nat} {r r' : Int} (s : Short T' p' r') (o : RuleOk T p r) (hv : ∀ x, vl T' p' r' x = vl T p r x) : T'.length - p' ≤ T.length - p := by
  have o' := s.ok
  rcases Nat.lt_or_ge (T.length - p) (T'.length - p') with q | q
  · exfalso
    rcases s.start with e | e
    · omega
    · have p0 := o'.p0
      have p1 := o'.p1
      have far : ∀ x, T'.length - p' ≤ x → vl T p r (x + p') = vl T p r x + r' := fun x hx => by
        rw [← hv, ← hv]
        exact vl_add p0 p1 hx
      have := rep_down o far (x := T'.length - p' - 1) (by omega)
      rw [← hv, ← hv, show T'.length - p' - 1 + p' = T'.length - 1 by omega, vl_lt (x := T'.length - p' - 1) (by omega)] at this
      exact e this
  · exact q
end Sm

set_option linter.all false
set_option maxHeartbeats 4000000
namespace Sm
/-! ### the law's own search for the shortest table -/
def tabF (T : List Int) (p : Nat) (r : Int) (few : Nat) : List Int := (List.range few).map (vl T p r)
def riseF (T : List Int) (p : Nat) (r : Int) (few per : Nat) : Int := vl T p r few - vl T p r (few - per)
def Fits (T : List Int) (p : Nat) (r : Int) (few per : Nat) : Prop := ∀ x, vl (tabF T p r few) per (riseF T p r few per) x = vl T p r x
theorem tabF_len (T : List Int) (p : Nat) (r : Int) (few : Nat) : (tabF T p r few).length = few := by unfold tabF; rw [List.length_map, List.length_range]
theorem tabF_get {T : List Int} {p : Nat} {r : Int} {few i : Nat} (h : i < few) : (tabF T p r few).getD i 0 = vl T p r i := by
  unfold tabF
  rw [List.getD_eq_getElem?_getD, List.getElem?_map, List.getElem?_range h]
  rfl
theorem tabF_w {T : List Int} {p : Nat} {r : Int} {few per : Nat} (o : RuleOk T p r) (h0 : 0 < per) (h1 : per ≤ few) : RuleW (tabF T p r few) per (riseF T p r few per) :=
  ⟨h0, by rw [tabF_len]; exact h1, by have := o.le (show few - per ≤ few by omega); unfold riseF; omega⟩
/-- it is enough to look at some amounts -/
theorem fits_of {T : List Int} {p : Nat} {r : Int} {few per : Nat} (o : RuleOk T p r) (h0 : 0 < per) (h1 : per ≤ few) (h : ∀ i, i < 2 * T.length + 2 * p * per → vl (tabF T p r few) per (riseF T p r few per) (few + i) = vl T p r (few + i)) : Fits T p r few per := by
  have w := tabF_w o h0 h1
  have p0 := o.p0
  have p1 := o.p1
  have near : ∀ x, x < few + (2 * T.length + 2 * p * per) → gp (tabF T p r few) per (riseF T p r few per) T p r x = 0 := fun x hx => by
    unfold gp
    rcases Nat.lt_or_ge x few with q | q
    · rw [vl_lt (by rw [tabF_len]; exact q), tabF_get q]
      omega
    · have := h (x - few) (by omega)
      rw [show few + (x - few) = x by omega] at this
      omega
  obtain ⟨B, hB⟩ : ∃ B, B = few + T.length := ⟨_, rfl⟩
  have e : p * per = per * p := Nat.mul_comm _ _
  have tt : 0 < p * per := Nat.mul_pos p0 h0
  have turn : ∀ x, B ≤ x → gp (tabF T p r few) per (riseF T p r few per) T p r (x + p * per) = gp (tabF T p r few) per (riseF T p r few per) T p r x + ((p : Int) * riseF T p r few per - (per : Int) * r) := fun x hx => gp_turn w o.w (by rw [tabF_len]; omega) (by omega) e hx
  have z : (p : Int) * riseF T p r few per - (per : Int) * r = 0 := by
    have a := turn B (Nat.le_refl _)
    have e2 : 2 * p * per = 2 * (p * per) := Nat.mul_assoc ..
    rw [near B (by omega), near (B + p * per) (by omega)] at a
    omega
  intro x
  have key : gp (tabF T p r few) per (riseF T p r few per) T p r x = 0 := by
    rcases Nat.lt_or_ge x B with q | q
    · exact near x (by omega)
    · obtain ⟨y, k, y1, y2, rfl⟩ := split_turn tt q
      rw [gp_turns turn y1 k, z, Int.mul_zero]
      have e2 : 2 * p * per = 2 * (p * per) := Nat.mul_assoc ..
      rw [near y (by omega)]
      rfl
  unfold gp at key
  omega
/-- what a shortest tuple tells -/
theorem short_rep {S T : List Int} {p q : Nat} {r t : Int} (s : Short S q t) (o : RuleOk T p r) (h : ∀ x, vl S q t x = vl T p r x) : S.length ≤ T.length ∧ (S.length = T.length → T = S ∧ p = q ∧ r = t) := by
  have so := s.ok
  have g := short_le s o h
  have d : q ∣ p := by rw [← g]; exact Nat.gcd_dvd_right ..
  have qp : q ≤ p := Nat.le_of_dvd o.p0 d
  have b := begin_le s o h
  have p1 := o.p1
  have q1 := so.p1
  refine ⟨by omega, fun e => ?_⟩
  obtain rfl : p = q := by omega
  have e1 := vl_add so.p0 so.p1 (r := t) (x := S.length) (by omega)
  have e2 := vl_add o.p0 o.p1 (r := r) (x := S.length) (by omega)
  rw [h, h] at e1
  refine ⟨List.ext_getElem e.symm fun i h1 h2 => ?_, rfl, by omega⟩
  have q := h i
  rw [vl_lt h2, vl_lt h1, List.getD_eq_getElem?_getD, List.getD_eq_getElem?_getD, List.getElem?_eq_getElem h1, List.getElem?_eq_getElem h2] at q
  exact q.symm
/-- a tuple that tells the same is found by its own length and period -/
theorem fits_self {S T : List Int} {p q : Nat} {r t : Int} (so : RuleOk S q t) (h : ∀ x, vl S q t x = vl T p r x) : tabF T p r S.length = S ∧ riseF T p r S.length q = t := by
  constructor
  · refine List.ext_getElem (tabF_len ..) fun i h1 h2 => ?_
    have e := tabF_get (T := T) (p := p) (r := r) (few := S.length) (i := i) h2
    rw [List.getD_eq_getElem?_getD, List.getElem?_eq_getElem h1] at e
    have e3 := vl_lt (p := q) (r := t) h2
    rw [List.getD_eq_getElem?_getD, List.getElem?_eq_getElem h2] at e3
    have e : (tabF T p r S.length)[i] = vl T p r i := e
    have e3 : vl S q t i = S[i] := e3
    rw [e, ← h, e3]
  · unfold riseF
    have p1 := so.p1
    have e := vl_add so.p0 so.p1 (r := t) (x := S.length - q) (Nat.le_refl _)
    rw [show S.length - q + q = S.length by omega, h, h] at e
    omega
theorem found_short {T : List Int} {p : Nat} {r : Int} {few per : Nat} (o : RuleOk T p r) (h0 : 0 < per) (h1 : per ≤ few) (f : Fits T p r few per) (no : ∀ a b, a < few → 0 < b → b ≤ a → ¬ Fits T p r a b) : Short (tabF T p r few) per (riseF T p r few per) := by
  obtain ⟨S, q, t, s, hs⟩ := short_is o
  have so := s.ok
  obtain ⟨e1, e2⟩ := fits_self so hs
  have fs : Fits T p r S.length q := fun x => by rw [e1, e2]; exact hs x
  have le : few ≤ S.length := by
    rcases Nat.lt_or_ge S.length few with c | c
    · exact absurd fs (no _ _ c so.p0 so.p1)
    · exact c
  have ok : RuleOk (tabF T p r few) per (riseF T p r few per) := by
    have w := tabF_w o h0 h1
    refine W_ok w (fun i hi => ?_) fun x hx => ?_
    · rw [tabF_len] at hi
      rw [tabF_get hi]
      exact o.pos i
    · rw [tabF_len] at hx
      rw [tabF_get hx, f]
      exact o.up x
  obtain ⟨a, b⟩ := short_rep s ok fun x => by rw [hs, f]
  rw [tabF_len] at a b
  obtain ⟨b1, b2, b3⟩ := b (by omega)
  rw [b3, b1, b2]
  exact s
theorem found_some {T : List Int} {p : Nat} {r : Int} (o : RuleOk T p r) : ∃ few per, 0 < per ∧ per ≤ few ∧ few ≤ T.length ∧ Fits T p r few per := by
  obtain ⟨S, q, t, s, hs⟩ := short_is o
  have so := s.ok
  obtain ⟨e1, e2⟩ := fits_self so hs
  exact ⟨S.length, q, so.p0, so.p1, (short_rep s o hs).1, fun x => by rw [e1, e2]; exact hs x⟩
/-- how often the period fits in -/
def qt (T : List Int) (p x : Nat) : Nat := if x < T.length then 0 else (x - T.length) / p + 1
theorem qt_ok {T : List Int} {p : Nat} {r : Int} (x : Nat) (p0 : 0 < p) (p1 : p ≤ T.length) : qt T p x * p ≤ x ∧ x - qt T p x * p < T.length ∧ vl T p r x = T.getD (x - qt T p x * p) 0 + ((qt T p x : Nat) : Int) * r := by
  unfold qt
  by_cases c : x < T.length
  · rw [if_pos c, Nat.zero_mul, Nat.sub_zero]
    refine ⟨Nat.zero_le _, c, ?_⟩
    rw [vl_lt c]
    simp
  · rw [if_neg c]
    obtain ⟨a1, a2, a3⟩ := place p0 p1 (Nat.le_of_not_lt c)
    exact ⟨a1, a3, if_neg c⟩
theorem qt_int {T : List Int} {p x : Nat} (p0 : 0 < p) : (if ((x : Int) - (T.length : Int)) / (p : Int) + 1 > 0 then ((x : Int) - (T.length : Int)) / (p : Int) + 1 else 0) = ((qt T p x : Nat) : Int) := by
  unfold qt
  by_cases c : x < T.length
  · rw [if_pos c]
    have h : ((x : Int) - (T.length : Int)) / (p : Int) < 0 := Int.ediv_neg_of_neg_of_pos (by omega) (by omega)
    rw [if_neg (by omega)]
    rfl
  · rw [if_neg c, div_cast (Nat.le_of_not_lt c), if_pos (show ((((x - T.length) / p + 1 : Nat) : Int)) > 0 from Int.natCast_pos.mpr (Nat.succ_pos _))]
end Sm

set_option Elab.async false
set_option linter.all false
set_option maxRecDepth 100000
set_option maxHeartbeats 4000000
namespace Sm
open PySem PySem.Spec PyProof.Rows L2
theorem getD_map1 {T : List Int} {i : Nat} (h : i < T.length) : (T.map (· + 1)).getD i 0 = T.getD i 0 + 1 := by
  rw [List.getD_eq_getElem?_getD, List.getD_eq_getElem?_getD, List.getElem?_map, List.getElem?_eq_getElem h]
  rfl
theorem plus_ok {T : List Int} {p : Nat} {r : Int} (o : RuleOk T p r) : RuleOk (T.map (· + 1)) p r := by
  have p0 := o.p0
  have p1 := o.p1
  refine ⟨p0, by rw [List.length_map]; exact p1, o.r0, fun i hi => ?_, fun i hi => ?_, ?_⟩
  · rw [List.length_map] at hi
    rw [getD_map1 hi]
    have := o.nn i hi
    omega
  · rw [List.length_map] at hi
    rw [getD_map1 hi, getD_map1 (by omega)]
    have := o.mono i hi
    omega
  · rw [List.length_map, getD_map1 (by omega), getD_map1 (by omega)]
    have := o.wrap
    omega
theorem late_len {T : List Int} {a : Nat} (h : a ≤ T.length) : (T.take a ++ (T.drop a).map (· + 1)).length = T.length := by
  rw [List.length_append, List.length_map, List.length_take, List.length_drop]
  omega
theorem late_get {T : List Int} {a i : Nat} (h : a ≤ T.length) (hi : i < T.length) : (T.take a ++ (T.drop a).map (· + 1)).getD i 0 = T.getD i 0 + (if i < a then 0 else 1) := by
  rw [List.getD_eq_getElem?_getD, List.getElem?_append]
  have lt : (T.take a).length = a := by rw [List.length_take]; omega
  by_cases q : i < a
  · rw [if_pos (by omega), if_pos q, List.getElem?_take_of_lt q, List.getD_eq_getElem?_getD]
    omega
  · rw [if_neg (by omega), if_neg q, lt, List.getElem?_map, List.getElem?_drop, show a + (i - a) = i by omega, List.getD_eq_getElem?_getD, List.getElem?_eq_getElem hi]
    rfl
theorem flat_one {n : Nat} {x : V} : (List.replicate n [x]).flatten = List.replicate n x := List.flatten_replicate_singleton ..
theorem rep_int {n : Nat} {c : Int} : List.replicate n (V.int c) = (List.replicate n c).map V.int := (List.map_replicate ..).symm
theorem getD_rep {n i : Nat} {c : Int} (h : i < n) : (List.replicate n c).getD i 0 = c := by
  rw [List.getD_eq_getElem?_getD, List.getElem?_replicate, if_pos h]
  rfl
theorem zero_ok {n : Nat} {r : Int} (h : 0 < n) (h0 : 0 ≤ r) : RuleOk (List.replicate n 0) n r := by
  refine ⟨h, by rw [List.length_replicate]; exact Nat.le_refl _, h0, fun i hi => ?_, fun i hi => ?_, ?_⟩
  · rw [List.length_replicate] at hi
    rw [getD_rep hi]
    exact Int.le_refl _
  · rw [List.length_replicate] at hi
    rw [getD_rep hi, getD_rep (by omega)]
    exact Int.le_refl _
  · rw [List.length_replicate, getD_rep (by omega), getD_rep (by omega)]
    omega
theorem one_ok {c r : Int} (h : 0 ≤ c) (h0 : 0 ≤ r) : RuleOk [c] 1 r := by
  refine ⟨by decide, Nat.le_refl 1, h0, fun i hi => ?_, fun i hi => ?_, ?_⟩
  · have hi : i < 1 := hi
    rw [show i = 0 by omega]
    exact h
  · have hi : i + 1 < 1 := hi
    omega
  · show c ≤ c + r
    omega
abbrev rareT (q s : Nat) : List Int := List.replicate (s + 1) ((s : Int) - 1) ++ List.replicate (q - s - 1) ((s : Int) + (q : Int) - 1)
theorem rare_get {q s i : Nat} (hs : s + 1 ≤ q) (hi : i < q) : (rareT q s).getD i 0 = if i < s + 1 then (s : Int) - 1 else (s : Int) + (q : Int) - 1 := by
  rw [List.getD_eq_getElem?_getD, List.getElem?_append, List.length_replicate]
  by_cases h : i < s + 1
  · rw [if_pos h, if_pos h, List.getElem?_replicate, if_pos h]
    rfl
  · rw [if_neg h, if_neg h, List.getElem?_replicate, if_pos (by omega)]
    rfl
theorem rare_len {q s : Nat} (hs : s + 1 ≤ q) : (rareT q s).length = q := by
  rw [List.length_append, List.length_replicate, List.length_replicate]
  omega
theorem rare_ok {q s : Nat} (h1 : 1 ≤ s) (hs : s + 1 ≤ q) : RuleOk (rareT q s) q q := by
  have l := rare_len hs
  refine ⟨by omega, by omega, by omega, fun i hi => ?_, fun i hi => ?_, ?_⟩
  · rw [rare_get hs (by omega)]
    split <;> omega
  · rw [rare_get hs (by omega), rare_get hs (by omega)]
    split <;> split <;> omega
  · rw [l, rare_get hs (by omega), rare_get hs (by omega)]
    split <;> split <;> omega
theorem lay_ints : ∀ ns : List Int, PyData.canLayAll0 (ns.map PyData.int) = true
  | [] => rfl
  | n :: ns => by
    simp only [List.map_cons, PyData.canLayAll0, PyData.canLay0, lay_ints ns, Bool.and_self]
theorem shaped_ints (ns : List Int) : SeqAt.shaped (dataI ns) = true := by
  have d := depth_ints ns
  have e : (dataI ns).depth ≤ 64 := by
    unfold dataI
    simp only [PyData.depth]
    omega
  have l : (dataI ns).canLay0 = true := by
    unfold dataI
    simp only [PyData.canLay0, lay_ints]
  unfold SeqAt.shaped
  rw [l, decide_eq_true e]
  rfl
theorem ne_nil_ints {ns : List Int} : (!PyData.eqv (dataI ns) (.list [])) = decide (ns ≠ []) := by
  cases ns with
  | nil => rfl
  | cons n ns => rfl
theorem lc_turn1 {H0 H' : Hp} {U : Addr} {ns : List Int} {j : Nat} {x : V} (hl : ns.length ≤ 9000) (nU : H0 U = none) (hx : (ns.map V.int)[j]? = some x) (sm : Same H0 H') (hU : H' U = some (.lst (((ns.take j).map (· + 1)).map V.int))) :
    ∃ y, x = .int y ∧ (((ns.take j).map (· + 1)).map V.int).length < sizeLine ∧ Same H0 (upd H' U (.lst ((((ns.take j).map (· + 1)).map V.int) ++ [V.int (y + 1)]))) ∧
      upd H' U (.lst ((((ns.take j).map (· + 1)).map V.int) ++ [V.int (y + 1)])) U = some (.lst (((ns.take (j + 1)).map (· + 1)).map V.int)) := by
  rw [List.getElem?_map] at hx
  cases e : ns[j]? with
  | none => rw [e] at hx; cases hx
  | some y =>
    rw [e] at hx
    have hj := (List.getElem?_eq_some_iff.mp e).1
    refine ⟨y, (Option.some.inj hx).symm, ?_, fun b' u e' => ?_, ?_⟩
    · rw [List.length_map, List.length_map, List.length_take]
      exact Nat.lt_of_le_of_lt (show min j ns.length ≤ 9000 by omega) (by decide)
    · rw [upd_ne (ne_of_none e' nU)]
      exact sm _ _ e'
    · rw [upd_same, List.take_add_one, e, List.map_append, List.map_append]
      rfl
theorem small_log30 {i : Nat} (h1 : i ≤ 1000000000000000000000000000000) : (i : Int).natAbs.log2 < 1920 :=
  Nat.lt_of_lt_of_le (PySem.Flt.log2_lt_of (k := 310) (by decide) (by omega)) (by decide)
section
variable {K : PySem.W.Frag} {H : Hp} {Q : VK}
end
end Sm

set_option linter.all false
set_option maxHeartbeats 4000000
namespace Sm
/-! a fee, parted with a plain rule -/
theorem rep_at {n i : Nat} {c : Int} (h : i < n) : (List.replicate n c).getD i 0 = c := by
  rw [List.getD_eq_getElem?_getD, List.getElem?_replicate, if_pos h]
  rfl
theorem fee_vl {size : Nat} {much : Int} (s0 : 0 < size) (x : Nat) : vl (List.replicate size 0) 1 much x = if x < size then 0 else (((x - size + 1 : Nat) : Int)) * much := by
  unfold vl
  rw [List.length_replicate]
  split
  · rename_i h
    exact rep_at h
  · rename_i h
    rw [Nat.div_one, Nat.mul_one, show x - (x - size + 1) = size - 1 by omega, rep_at (by omega), Int.zero_add]
theorem line_vl {m : Int} (x : Nat) : vl [0] 1 m x = (x : Int) * m := by
  have := fee_vl (size := 1) (much := m) (by decide) x
  rw [show List.replicate 1 (0 : Int) = [0] from rfl] at this
  rw [this]
  split
  · rename_i h
    rw [show x = 0 by omega]
    simp
  · rename_i h
    rw [show x - 1 + 1 = x by omega]
theorem fee_is {size : Nat} {much m : Int} (s0 : 0 < size) (m0 : 0 ≤ m) (m1 : m ≤ much) (x : Nat) : IsC (vl (List.replicate size 0) 1 much) (vl [0] 1 m) (x + 1) x (max ((x : Int) * m) (((x : Int) - (size : Int) + 1) * much)) := by
  constructor
  · by_cases h : ((x : Int) - (size : Int) + 1) * much ≤ (x : Int) * m
    · refine ⟨0, by omega, by omega, ?_⟩
      rw [fee_vl s0, line_vl, if_pos s0, Nat.sub_zero]
      omega
    · have hx : ¬ x < size := fun q => by
        have a : ((x : Int) - (size : Int) + 1) * much ≤ 0 := Int.mul_nonpos_of_nonpos_of_nonneg (by omega) (by omega)
        have b : 0 ≤ (x : Int) * m := Int.mul_nonneg (by omega) m0
        omega
      refine ⟨x, by omega, Nat.le_refl _, ?_⟩
      rw [fee_vl s0, line_vl, if_neg hx, Nat.sub_self, show ((x - size + 1 : Nat) : Int) = (x : Int) - (size : Int) + 1 by omega]
      simp only [Int.natCast_zero, Int.zero_mul, Int.add_zero]
      omega
  · intro a a1 a2
    rw [fee_vl s0, line_vl]
    have e : ((x - a : Nat) : Int) = (x : Int) - (a : Int) := by omega
    split
    · have : ((x - a : Nat) : Int) * m ≤ (x : Int) * m := Int.mul_le_mul_of_nonneg_right (by omega) m0
      omega
    · have b : ((x - a : Nat) : Int) * m ≤ ((x - a : Nat) : Int) * much := Int.mul_le_mul_of_nonneg_left m1 (by omega)
      have c : ((a - size + 1 : Nat) : Int) * much + ((x - a : Nat) : Int) * much = ((x : Int) - (size : Int) + 1) * much := by
        rw [← Int.add_mul]
        congr 1
        omega
      omega
/-- where the fee is worth while -/
def feeT (size last : Nat) (m much : Int) : List Int := (List.range (last + 1)).map (fun x : Nat => m * (x : Int)) ++ [much * ((last : Int) + 2 - (size : Int))]
theorem feeT_len {size last : Nat} {m much : Int} : (feeT size last m much).length = last + 2 := by
  unfold feeT
  rw [List.length_append, List.length_map, List.length_range]
  rfl
theorem feeT_at {size last i : Nat} {m much : Int} (h : i < last + 2) : (feeT size last m much).getD i 0 = if i ≤ last then m * (i : Int) else much * ((last : Int) + 2 - (size : Int)) := by
  unfold feeT
  rw [List.getD_eq_getElem?_getD, List.getElem?_append, List.length_map, List.length_range]
  split
  · rename_i q
    rw [if_pos (by omega), List.getElem?_map, List.getElem?_range q]
    rfl
  · rename_i q
    rw [if_neg (by omega), show i - (last + 1) = 0 by omega]
    rfl
theorem fee_tab {size last : Nat} {m much less : Int} (s1 : 2 ≤ size) (l0 : 0 < less) (m0 : 0 ≤ m) (e : much = m + less) (h1 : less * (last : Int) < much * ((size : Int) - 1)) (h2 : much * ((size : Int) - 1) ≤ less * ((last : Int) + 1)) (l1 : 1 ≤ last) :
    Short (feeT size last m much) 1 much ∧ ∀ x, vl (feeT size last m much) 1 much x = max ((x : Int) * m) (((x : Int) - (size : Int) + 1) * much) := by
  have much0 : 0 ≤ much := by omega
  have lin : ∀ x : Nat, ((x : Int) - (size : Int) + 1) * much = (x : Int) * m + (less * (x : Int) - much * ((size : Int) - 1)) := fun x => by
    have a : ((x : Int) - (size : Int) + 1) * much = (x : Int) * much - much * ((size : Int) - 1) := by
      rw [show (x : Int) - (size : Int) + 1 = (x : Int) - ((size : Int) - 1) by omega, Int.sub_mul, Int.mul_comm ((size : Int) - 1)]
    rw [a, e, Int.mul_add, Int.mul_comm (x : Int) less]
    omega
  have val : ∀ x : Nat, vl (feeT size last m much) 1 much x = if x ≤ last then (x : Int) * m else ((x : Int) - (size : Int) + 1) * much := fun x => by
    unfold vl
    rw [feeT_len, Nat.div_one, Nat.mul_one]
    split
    · rename_i q
      rw [feeT_at q]
      split
      · rw [Int.mul_comm]
      · rw [show x = last + 1 by omega, Int.mul_comm]
        congr 1
        omega
    · rename_i q
      rw [show x - (x - (last + 2) + 1) = last + 1 by omega, feeT_at (by omega), if_neg (by omega), if_neg (by omega), Int.mul_comm much, ← Int.add_mul]
      congr 1
      omega
  have far : ∀ x : Nat, last < x → 0 ≤ less * (x : Int) - much * ((size : Int) - 1) := fun x hx => by
    have : less * ((last : Int) + 1) ≤ less * (x : Int) := Int.mul_le_mul_of_nonneg_left (by omega) (by omega)
    omega
  have near : ∀ x : Nat, x ≤ last → less * (x : Int) - much * ((size : Int) - 1) < 0 := fun x hx => by
    have : less * (x : Int) ≤ less * (last : Int) := Int.mul_le_mul_of_nonneg_left (by omega) (by omega)
    omega
  have hv : ∀ x, vl (feeT size last m much) 1 much x = max ((x : Int) * m) (((x : Int) - (size : Int) + 1) * much) := fun x => by
    rw [val]
    have l := lin x
    split
    · rename_i q
      have := near x q
      omega
    · rename_i q
      have := far x (by omega)
      omega
  have up : ∀ x : Nat, max ((x : Int) * m) (((x : Int) - (size : Int) + 1) * much) ≤ max (((x + 1 : Nat) : Int) * m) ((((x + 1 : Nat) : Int) - (size : Int) + 1) * much) := fun x => by
    have a : (x : Int) * m ≤ ((x + 1 : Nat) : Int) * m := Int.mul_le_mul_of_nonneg_right (by omega) m0
    have b : ((x : Int) - (size : Int) + 1) * much ≤ (((x + 1 : Nat) : Int) - (size : Int) + 1) * much := Int.mul_le_mul_of_nonneg_right (by omega) much0
    omega
  have at_ : ∀ i, i < last + 2 → (feeT size last m much).getD i 0 = max ((i : Int) * m) (((i : Int) - (size : Int) + 1) * much) := fun i hi => by
    rw [← hv, vl_lt (by rw [feeT_len]; exact hi)]
  have ok : RuleOk (feeT size last m much) 1 much := by
    refine ⟨by decide, by rw [feeT_len]; omega, much0, fun i hi => ?_, fun i hi => ?_, by omega⟩
    · rw [feeT_len] at hi
      rw [at_ i hi]
      have : 0 ≤ (i : Int) * m := Int.mul_nonneg (by omega) m0
      omega
    · rw [feeT_len] at hi
      rw [at_ i (by omega), at_ (i + 1) hi]
      exact up i
  refine ⟨⟨ok, fun s c s0 s1 => by omega, .inr ?_⟩, hv⟩
  rw [feeT_len, show last + 2 - 1 = last + 1 by omega, show last + 1 - 1 = last by omega, val, if_neg (by omega), feeT_at (by omega), if_pos (Nat.le_refl _)]
  have a := lin last
  have b := near last (Nat.le_refl _)
  have c : (((last + 1 : Nat) : Int) - (size : Int) + 1) * much = ((last : Int) - (size : Int) + 1) * much + much := by
    rw [show ((last + 1 : Nat) : Int) - (size : Int) + 1 = ((last : Int) - (size : Int) + 1) + 1 by omega, Int.add_mul, Int.one_mul]
  rw [c, Int.mul_comm m]
  omega
/-! two stairs of coprime steps -/
/-- x is a sum of p's and q's -/
def Sg (p q x : Nat) : Prop := ∃ i j, x = i * p + j * q
theorem sg_step {p q x : Nat} (h : 0 < x) : Sg p q x ↔ (p ≤ x ∧ Sg p q (x - p)) ∨ (q ≤ x ∧ Sg p q (x - q)) := by
  constructor
  · rintro ⟨i, j, e⟩
    cases i with
    | zero =>
      cases j with
      | zero => simp at e; omega
      | succ j =>
        rw [Nat.succ_mul, Nat.zero_mul, Nat.zero_add] at e
        exact .inr ⟨by omega, 0, j, by rw [Nat.zero_mul]; omega⟩
    | succ i =>
      rw [Nat.succ_mul] at e
      exact .inl ⟨by omega, i, j, by omega⟩
  · rintro (⟨h, i, j, e⟩ | ⟨h, i, j, e⟩)
    · exact ⟨i + 1, j, by rw [Nat.succ_mul]; omega⟩
    · exact ⟨i, j + 1, by rw [Nat.succ_mul]; omega⟩
theorem stair_vl {p x : Nat} (p0 : 0 < p) : vl (List.replicate p 0) p (p : Int) x = ((x / p * p : Nat) : Int) := by
  unfold vl
  rw [List.length_replicate]
  split
  · rename_i h
    rw [rep_at h, Nat.div_eq_of_lt h, Nat.zero_mul]
    rfl
  · rename_i h
    have e : (x - p) / p + 1 = x / p := (Nat.div_eq_sub_div p0 (by omega)).symm
    rw [e]
    have m := Nat.div_add_mod x p
    have l := Nat.mod_lt x p0
    rw [show x - x / p * p = x % p by rw [Nat.mul_comm]; omega, rep_at l, Int.zero_add, Int.natCast_mul]
theorem stairs_is {p q x : Nat} (p0 : 0 < p) (q0 : 0 < q) {v : Nat} (h1 : Sg p q v) (h2 : v ≤ x) (h3 : ∀ s, Sg p q s → s ≤ x → s ≤ v) : IsC (vl (List.replicate p 0) p (p : Int)) (vl (List.replicate q 0) q (q : Int)) (x + 1) x (v : Int) := by
  have up : ∀ a, a ≤ x → a / p * p + (x - a) / q * q ≤ v := fun a ha => by
    refine h3 _ ⟨_, _, rfl⟩ ?_
    have m := Nat.div_mul_le_self a p
    have n := Nat.div_mul_le_self (x - a) q
    omega
  constructor
  · obtain ⟨i, j, e⟩ := h1
    have hip : i * p ≤ x := by omega
    refine ⟨i * p, by omega, hip, ?_⟩
    rw [stair_vl p0, stair_vl q0, Nat.mul_div_cancel _ p0]
    have a : j ≤ (x - i * p) / q := by
      rw [Nat.le_div_iff_mul_le q0]
      omega
    have b : j * q ≤ (x - i * p) / q * q := Nat.mul_le_mul_right q a
    have c := up (i * p) hip
    rw [Nat.mul_div_cancel _ p0] at c
    omega
  · intro a a1 a2
    rw [stair_vl p0, stair_vl q0]
    have := up a a2
    omega
/-- p and q without a common part: a times p leaves what is asked -/
theorem bez40 : ∀ p, p < 41 → ∀ q, q < 41 → 0 < q → Nat.gcd p q = 1 → ∃ a, a < q ∧ (a * p) % q = 1 % q := by decide +kernel
theorem bez {p q : Nat} (hp : p < 41) (hq : q < 41) (q0 : 0 < q) (h : Nat.gcd p q = 1) (n : Nat) : ∃ a, a < q ∧ (a * p) % q = n % q := by
  obtain ⟨a, a1, a2⟩ := bez40 p hp q hq q0 h
  refine ⟨a * n % q, Nat.mod_lt _ q0, ?_⟩
  rw [Nat.mod_mul_mod, Nat.mul_right_comm, ← Nat.mod_mul_mod, a2, Nat.mod_mul_mod, Nat.one_mul]
theorem sg_far {p q n : Nat} (hp : p < 41) (hq : q < 41) (p0 : 0 < p) (q0 : 0 < q) (h : Nat.gcd p q = 1) (hn : (p - 1) * (q - 1) ≤ n) : Sg p q n := by
  obtain ⟨a, a1, a2⟩ := bez hp hq q0 h n
  have e : (p - 1) * (q - 1) + (p - 1) = (p - 1) * q := by
    rw [← Nat.mul_succ]
    congr 1
    omega
  have e2 : (p - 1) * q + q = p * q := by
    rw [← Nat.succ_mul]
    congr 1
    omega
  have e3 : a * p + p ≤ q * p := by
    rw [← Nat.succ_mul]
    exact Nat.mul_le_mul_right p a1
  rw [Nat.mul_comm q p] at e3
  have d1 := Nat.div_add_mod (a * p) q
  have d2 := Nat.div_add_mod n q
  -- n's part of q is at least a p's
  have le : a * p / q ≤ n / q := by
    rcases Nat.lt_or_ge (n / q) (a * p / q) with w | w
    · exfalso
      have : q * (n / q) + q ≤ q * (a * p / q) := by
        rw [← Nat.mul_succ]
        exact Nat.mul_le_mul_left q w
      omega
    · exact w
  refine ⟨a, n / q - a * p / q, ?_⟩
  have m : q * (a * p / q) ≤ q * (n / q) := Nat.mul_le_mul_left q le
  rw [Nat.sub_mul, Nat.mul_comm (n / q), Nat.mul_comm (a * p / q)]
  omega
theorem sg_not {p q : Nat} (p1 : 1 < p) (q1 : 1 < q) (h : Nat.gcd p q = 1) : ¬ Sg p q ((p - 1) * (q - 1) - 1) := by
  rintro ⟨i, j, e⟩
  have f1 : (p - 1) * (q - 1) + (p - 1) = (p - 1) * q := by
    rw [← Nat.mul_succ]
    congr 1
    omega
  have f2 : (p - 1) * q + q = p * q := by
    rw [← Nat.succ_mul]
    congr 1
    omega
  have f3 : 0 < (p - 1) * (q - 1) := Nat.mul_pos (by omega) (by omega)
  have all : (i + 1) * p + (j + 1) * q = p * q := by
    rw [Nat.succ_mul, Nat.succ_mul]
    omega
  have dq : q ∣ (i + 1) * p := by
    have d : q ∣ (i + 1) * p + (j + 1) * q := by
      rw [all]
      exact Nat.dvd_mul_left q p
    exact (Nat.dvd_add_left (Nat.dvd_mul_left q (j + 1))).mp d
  have dp : p ∣ (j + 1) * q := by
    have d : p ∣ (i + 1) * p + (j + 1) * q := by
      rw [all]
      exact Nat.dvd_mul_right p q
    exact (Nat.dvd_add_right (Nat.dvd_mul_left p (i + 1))).mp d
  have gi : q ∣ i + 1 := Nat.Coprime.dvd_of_dvd_mul_right (Nat.Coprime.symm h) dq
  have gj : p ∣ j + 1 := Nat.Coprime.dvd_of_dvd_mul_right h dp
  have li : q ≤ i + 1 := Nat.le_of_dvd (by omega) gi
  have lj : p ≤ j + 1 := Nat.le_of_dvd (by omega) gj
  have m1 : q * p ≤ (i + 1) * p := Nat.mul_le_mul_right p li
  have m2 : p * q ≤ (j + 1) * q := Nat.mul_le_mul_right q lj
  have z : 0 < p * q := Nat.mul_pos (by omega) (by omega)
  rw [Nat.mul_comm q p] at m1
  omega
end Sm

set_option Elab.async false
set_option linter.all false
set_option maxRecDepth 100000
set_option maxHeartbeats 8000000
namespace Sm
open PySem PySem.Spec PyProof.Rows L2
open C8 (pss_cut)
def topS (i : Nat) : Stmt := PySem.Challenge.pw_smallchange_k71_rules_as_objects.main.body.getD i (.Pass ⟨0, 0, 0, 0⟩)
structure Txt (mg : Str → Option Value) : Prop where
  n__law_call : mg "_law_call" = none
  n_abs : mg "abs" = none
  n_all : mg "all" = none
  n_any : mg "any" = none
  n_bool : mg "bool" = none
  n_int : mg "int" = none
  n_isinstance : mg "isinstance" = none
  n_iter : mg "iter" = none
  n_len : mg "len" = none
  n_list : mg "list" = none
  n_max : mg "max" = none
  n_min : mg "min" = none
  n_range : mg "range" = none
  n_repr : mg "repr" = none
  n_str : mg "str" = none
  n_tuple : mg "tuple" = none
  g_gcd : mg "gcd" = some (.builtin "math.gcd")
  g_lcm : mg "lcm" = some (.builtin "math.lcm")
  c_MAX_TOLD : ∃ t, mg "MAX_TOLD" = some (.int 5000 t)
/-! ### rules in the heap -/
def RuleAt (H : Hp) (d : Addr) (T : List Int) (p : Nat) (r : Int) : Prop := ∃ t, H d = some (.tup [.ref t, .int (p : Int), .int r]) ∧ H t = some (.tup (T.map V.int))
theorem RuleAt.same {H H' : Hp} {d : Addr} {T : List Int} {p : Nat} {r : Int} (R : RuleAt H d T p r) (s : Same H H') : RuleAt H' d T p r := by
  obtain ⟨t, h1, h2⟩ := R
  exact ⟨t, s _ _ h1, s _ _ h2⟩
theorem RuleAt.fr {H H' : Hp} {d a l : Addr} {n : Int} {T : List Int} {p : Nat} {r : Int} (R : RuleAt H d T p r) (f : Fr a l H H') (D : Deck H a l n) : RuleAt H' d T p r := by
  obtain ⟨t, h1, h2⟩ := R
  exact ⟨t, f.tup D h1, f.tup D h2⟩
structure RB (T : List Int) (p : Nat) (r : Int) : Prop where
  len : T.length ≤ 30000
  r1 : r ≤ 1000000000000000000
  top : ∀ i, i < T.length → T.getD i 0 ≤ 100000000000000000000
/-- a small one, with bound M -/
structure RS (M : Int) (T : List Int) (p : Nat) (r : Int) : Prop where
  len : T.length ≤ 300
  turn : p ≤ 40
  r1 : r ≤ M
  top : ∀ i, i < T.length → T.getD i 0 ≤ M
theorem RS.rb {M : Int} {T : List Int} {p : Nat} {r : Int} (b : RS M T p r) (h : M ≤ 10000000000000000) : RB T p r := by
  have h1 := b.r1
  have h2 := b.len
  exact ⟨by omega, by omega, fun i hi => by have := b.top i hi; omega⟩
theorem RS.up {M N : Int} {T : List Int} {p : Nat} {r : Int} (b : RS M T p r) (h : M ≤ N) : RS N T p r := by
  have h1 := b.r1
  exact ⟨b.len, b.turn, by omega, fun i hi => by have := b.top i hi; omega⟩
/-- a rule cut shorter -/
structure Cut (T : List Int) (p : Nat) (r : Int) (T' : List Int) (p' : Nat) (r' : Int) : Prop where
  len : T'.length ≤ T.length
  turn : p' ≤ p
  rise : r' ≤ r
  get : ∀ i, i < T'.length → T'.getD i 0 = T.getD i 0
theorem Cut.rs {M : Int} {T T' : List Int} {p p' : Nat} {r r' : Int} (c : Cut T p r T' p' r') (b : RS M T p r) : RS M T' p' r' := by
  have h1 := c.len
  have h2 := c.turn
  have h3 := c.rise
  have b1 := b.len
  have b2 := b.turn
  have b3 := b.r1
  exact ⟨by omega, by omega, by omega, fun i hi => by rw [c.get i hi]; exact b.top i (by omega)⟩
theorem Cut.rb {T T' : List Int} {p p' : Nat} {r r' : Int} (c : Cut T p r T' p' r') (b : RB T p r) : RB T' p' r' := by
  have h1 := c.len
  have h3 := c.rise
  have b1 := b.len
  have b3 := b.r1
  exact ⟨by omega, by omega, fun i hi => by rw [c.get i hi]; exact b.top i (by omega)⟩
theorem get_int {T : List Int} {i : Nat} (h : i < T.length) : (T.map V.int)[i]? = some (.int (T.getD i 0)) := by
  rw [List.getElem?_map, List.getElem?_eq_getElem h, List.getD_eq_getElem?_getD, List.getElem?_eq_getElem h]
  rfl
theorem atI_neg1 {xs : List V} {v : V} (h0 : 0 < xs.length) (h : xs[xs.length - 1]? = some v) : atI xs (-1) = some v := by
  unfold atI ixN
  rw [if_neg (by decide), if_pos (by omega), show ((-1 : Int) + (xs.length : Int)).toNat = xs.length - 1 by omega]
  exact h
theorem last_int {T : List Int} (h : 0 < T.length) : atI (T.map V.int) (-1) = some (.int (T.getD (T.length - 1) 0)) :=
  atI_neg1 (by rw [List.length_map]; exact h) (by rw [List.length_map]; exact get_int (by omega))
theorem pick4 {a b c d r : Int} (h0 : 0 ≤ r) (h1 : r < 4) : ∃ z, [V.int a, V.int b, V.int c, V.int d][r.toNat]? = some (.int z) ∧ (z = a ∨ z = b ∨ z = c ∨ z = d) := by
  obtain rfl | rfl | rfl | rfl : r = 0 ∨ r = 1 ∨ r = 2 ∨ r = 3 := by omega
  · exact ⟨a, rfl, .inl rfl⟩
  · exact ⟨b, rfl, .inr (.inl rfl)⟩
  · exact ⟨c, rfl, .inr (.inr (.inl rfl))⟩
  · exact ⟨d, rfl, .inr (.inr (.inr rfl))⟩
section
variable {P : Program} {w : World} {K : PySem.W.Frag} {mg : Str → Option Value} {base : Heap}
abbrev s_l_deck : Stmt := topS 41
abbrev N_l_deck : List Str := ["_law_script", "_law_cell"]
theorem sc_l_deck : FnScope N_l_deck ["_law_script"] (defScope s_l_deck) := ⟨rfl, rfl, rfl, by decide +kernel, rfl, by decide +kernel, by decide +kernel⟩
theorem ok_l_deck (T : Txt mg) (D : Df K mg "_law_deck" s_l_deck ["_law_script"]) : Cal P w K mg base "_law_deck" ["_law_script"] 1 (sp_l_deck K) := by
  refine D.cal sc_l_deck (fun vs H Q E h => ?_) (fun f cdv A outer s H vs Q E hr h => ?_)
  · obtain ⟨a, ns, rfl, _⟩ := h
    rfl
  obtain ⟨a, ns, rfl, hS, hlen, k⟩ := h
  refine ⟨_, (pss_one (ps_ret (pe_lst (pa_cons (pe_lc (own := [("_law_cell", 1)]) (g := gName 1) (tt := tYes) rfl sc_l_deck.nd (pi_list (pe_slice sl_list (pv 0) po_none (po_some pe_int))) (blkOk_by (own := [("_law_cell", 1)]) (N := N_l_deck) (sc := defScope s_l_deck) (by decide +kernel)) (fun _ _ _ _ _ => pg_name (i := 1) sc_l_deck.nd rfl (Or.inl rfl)) (fun _ _ _ _ _ => pts_nil) (fun _ _ _ _ _ => (pe_callB call_abs (by rfl) T.n_abs (by decide +kernel) (pa_cons (pv 1) pa_nil)))) (pa_cons pe_int pa_nil))))), ?_⟩
  refine ⟨_, rfl, _, rfl, a, _, rfl, hS, fun c nc => ?_⟩
  rw [cut63 hlen]
  have s1 := same_upd (o := .lst (ns.map V.int)) nc
  refine ⟨c, rfl, ⟨_, SqL.of upd_same⟩, fun D nD => ?_⟩
  have s2 := s1.trans (same_upd (o := .lst []) nD)
  have hc2 : upd (upd H c (.lst (ns.map V.int))) D (.lst []) c = some (.lst (ns.map V.int)) := same_upd nD _ _ upd_same
  refine lc_list (K := K) (a := c) (xs := ns.map V.int) (fun i H' => Same H H' ∧ H' c = some (.lst (ns.map V.int)) ∧ c ≠ D ∧ H D = none ∧ H' D = some (.lst (((ns.take i).map absI).map V.int)))
    ⟨s2, hc2, ne_of_none upd_same nD, s1.free nD, upd_same⟩ (fun i H' _ h => SqL.of h.2.1) ?_ ?_
  · rintro i x H' hx ⟨sm, hc, ncD, nD0, hD⟩
    rw [List.getElem?_map] at hx
    cases e : ns[i]? with
    | none => rw [e] at hx; cases hx
    | some y =>
      rw [e] at hx
      have ex : x = .int y := (Option.some.inj hx).symm
      subst ex
      refine ⟨rfl, ?_⟩
      unfold tYes
      refine iteT ?_
      refine ⟨_, rfl, _, rfl, _, hD, ?_, ?_⟩
      · rw [List.length_map, List.length_map, List.length_take]
        exact Nat.lt_of_le_of_lt (Nat.min_le_right _ _) (small1000 (by omega))
      · refine ⟨fun b o e => ?_, ?_, ncD, nD0, ?_⟩
        · rw [upd_ne (ne_of_none e nD0)]
          exact sm _ _ e
        · rw [upd_ne ncD]
          exact hc
        · rw [upd_same, List.take_add_one, e, List.map_append, List.map_append]
          rfl
  · rintro H' ⟨sm, hc, ncD, nD0, hD⟩
    refine ⟨(by show 2 ≤ sizeLine; decide), fun p np => ?_⟩
    have s3 := sm.trans (same_upd (o := .lst [.ref D, .int 0]) np)
    refine k _ p D s3 ⟨upd_same, _, (same_upd np) _ _ hD, fun c hc => ?_, ?_⟩
    · obtain ⟨y, _, rfl⟩ := List.mem_map.mp hc
      exact absI_pos y
    · rw [List.length_map, List.length_take]
      omega
abbrev s_l_draw : Stmt := topS 42
abbrev N_l_draw : List Str := ["_law_deck_here", "_law_many", "_law_place", "_law_cell", "_law_mixed"]
theorem sc_l_draw : FnScope N_l_draw ["_law_deck_here", "_law_many"] (defScope s_l_draw) := ⟨rfl, rfl, rfl, by decide +kernel, rfl, by decide +kernel, by decide +kernel⟩
theorem ok_l_draw (T : Txt mg) (D : Df K mg "_law_draw" s_l_draw ["_law_deck_here", "_law_many"]) : Cal P w K mg base "_law_draw" ["_law_deck_here", "_law_many"] 1 (sp_l_draw K) := by
  refine D.cal sc_l_draw (fun vs H Q E h => ?_) (fun f cdv A outer s H vs Q E hr h => ?_)
  · obtain ⟨p, l, n, m, rfl, _⟩ := h
    rfl
  obtain ⟨p, l, n, m, rfl, D, n0, n1, m0, m1, k⟩ := h
  obtain ⟨cells, hl, hc⟩ := D.hl
  have npl : p ≠ l := ne_of D.hp hl deck_ne
  refine ⟨_, (pss_cons (ps_asg (pe_op op_add (pe_ix ix_list (pv 0) pe_int (fun _ _ => rfl)) pe_int) (pg_sub (pv 0) pe_int set_list))
    (pss_cons (ps_set (i := 2) sc_l_draw.nd rfl (Or.inl rfl) (pe_op op_modN (pe_callTy call_int1 (by rfl) T.n_int (by decide +kernel) (pa_cons (pe_ix ix_list (pv 0) pe_int (fun _ _ => rfl)) pa_nil)) (pe_callB (call_max2 rfl) (by rfl) T.n_max (by decide +kernel) (pa_cons pe_int (pa_cons (pe_callB call_len_seq (by rfl) T.n_len (by decide +kernel) (pa_cons (pe_ix ix_list (pv 0) pe_int (fun _ _ => rfl)) pa_nil)) pa_nil)))))
    (pss_cons (ps_set (i := 3) sc_l_draw.nd rfl (Or.inl rfl) (pe_ix ix_list (pe_op op_cat (pe_ix ix_list (pv 0) pe_int (fun _ _ => rfl)) (pe_lst (pa_cons pe_int pa_nil))) (pv 2) (fun _ _ => rfl)))
    (pss_cons (ps_if (pt_cmpR op_ge (pv 3) (pe_op op_pow pe_int pe_int) (nomark _)) (pss_cons (ps_asg (pe_op op_fdivW (pv 3) (pv 1)) (pg_sub (pe_ix ix_list (pv 0) pe_int (fun _ _ => rfl)) (pv 2) set_list))
    (pss_one (ps_ret (pe_op op_modN (pe_callTy call_int1 (by rfl) T.n_int (by decide +kernel) (pa_cons (pv 3) pa_nil)) (pv 1))))) pss_nil)
    (pss_cons (ps_set (i := 4) sc_l_draw.nd rfl (Or.inl rfl) (pe_op op_pow (pe_op op_add (pe_op op_add (pe_op op_modN (pe_callTy call_int1 (by rfl) T.n_int (by decide +kernel) (pa_cons (pv 3) pa_nil)) pe_int) (pe_op op_mul pe_int (pe_ix ix_list (pv 0) pe_int (fun _ _ => rfl)))) pe_int) pe_int))
    (pss_one (ps_ret (pe_op op_modN (pe_callTy call_int1 (by rfl) T.n_int (by decide +kernel) (pa_cons (pe_op op_modN (pe_callTy call_int1 (by rfl) T.n_int (by decide +kernel) (pa_cons (pv 4) pa_nil)) pe_int) pa_nil)) (pv 1))))))))), ?_⟩
  refine ⟨_, rfl, _, _, _, _, rfl, rfl, SqL.of D.hp, atI_nat (j := 1) rfl, _, _, rfl, rfl, _, rfl, _, _, _, _, rfl, rfl, D.hp, rfl, ?_⟩
  generalize hH0 : upd H p (HO.lst (List.set [V.ref l, V.int n] (Int.toNat 1) ((fun i j => V.int (i + j)) n 1))) = H0
  have hH0 : upd H p (.lst [.ref l, .int (n + 1)]) = H0 := hH0
  have f0 : Fr p l H H0 := fun b o h1 _ h => by rw [← hH0, upd_ne h1]; exact h
  have hl0 : H0 l = some (.lst (cells.map V.int)) := by rw [← hH0, upd_ne npl.symm]; exact hl
  have hp0 : H0 p = some (.lst [.ref l, .int (n + 1)]) := by rw [← hH0, upd_same]
  -- place
  have big : (if ((cells.map V.int).length : Int) > 1 then ((cells.map V.int).length : Int) else 1) = max 1 (cells.length : Int) := by
    rw [List.length_map]
    split <;> omega
  have fm : (n + 1).fmod (max 1 (cells.length : Int)) = (n + 1) % (max 1 (cells.length : Int)) := fmod_pos (by omega)
  have q0 : 0 ≤ (n + 1).fmod (max 1 (cells.length : Int)) := by rw [fm]; exact Int.emod_nonneg _ (by omega)
  have q1 : (n + 1).fmod (max 1 (cells.length : Int)) < max 1 (cells.length : Int) := by rw [fm]; exact Int.emod_lt_of_pos _ (by omega)
  refine ⟨_, rfl, _, _, _, _, rfl, rfl, SqL.of hp0, atI_nat (j := 1) rfl, .inl ⟨_, rfl, _, rfl, _, _, _, _, rfl, rfl, SqL.of hp0, atI_nat (j := 0) rfl, _, _, rfl, .inl (SqL.of hl0), _, _, rfl, _, _, rfl, rfl, (by rw [big]; omega), ?_⟩⟩
  have z : ∀ B : Int → Prop, B ((n + 1).fmod (max 1 (cells.length : Int))) → B ((n + 1).fmod (if ((cells.map V.int).length : Int) > 1 then ((cells.map V.int).length : Int) else 1)) := fun B h => by rw [big]; exact h
  refine z (fun y => gName 2 (.int y) _ _ _) ?_
  clear z
  -- cell
  refine ⟨_, rfl, _, _, _, _, rfl, rfl, SqL.of hp0, atI_nat (j := 0) rfl, (by show 1 ≤ sizeLine; decide), fun t nt => ?_⟩
  have st := same_upd (o := .lst [.int 0]) nt
  have hp1 := st _ _ hp0
  have hl1 := st _ _ hl0
  have f1 := f0.trans (Same.fr (p := p) (l := l) st)
  obtain ⟨hc, h63⟩ := hc
  have ln : (cells.map V.int).length = cells.length := List.length_map ..
  refine ⟨_, _, _, _, rfl, rfl, hl1, upd_same, (by rw [ln]; exact Nat.le_trans (by omega : cells.length + 1 ≤ 64) (by decide)), fun t2 nt2 => ?_⟩
  have st2 := same_upd (o := .lst (cells.map V.int ++ [.int 0])) nt2
  have hp2 := st2 _ _ hp1
  have hl2 := st2 _ _ hl1
  have f2 := f1.trans (Same.fr (p := p) (l := l) st2)
  have ht2 : upd (upd H0 t (.lst [.int 0])) t2 (.lst (cells.map V.int ++ [.int 0])) t2 = some (.lst ((cells ++ [0]).map V.int)) := by rw [upd_same, List.map_append]; rfl
  generalize upd (upd H0 t (HO.lst [V.int 0])) t2 (HO.lst (cells.map V.int ++ [V.int 0])) = H2 at hp2 hl2 f2 ht2 ⊢
  have q2 : ((n + 1).fmod (max 1 (cells.length : Int))).toNat < (cells ++ [0]).length := by rw [List.length_append, List.length_singleton]; omega
  have q3 : (n + 1).fmod (max 1 (cells.length : Int)) = (((n + 1).fmod (max 1 (cells.length : Int))).toNat : Int) := by omega
  generalize (n + 1).fmod (max 1 (cells.length : Int)) = pl at q0 q1 q2 q3 ⊢
  have q4 : ((cells ++ [0]).map V.int)[pl.toNat]? = some (.int (cells ++ [0])[pl.toNat]) := by
    rw [List.getElem?_map, List.getElem?_eq_getElem q2]
    rfl
  have c0 : 0 ≤ (cells ++ [0])[pl.toNat] := by
    rcases List.mem_append.mp (List.getElem_mem q2) with q | q
    · exact hc _ q
    · rw [List.mem_singleton.mp q]
      decide
  have inside : 1000000000000000000 ≤ (cells ++ [0])[pl.toNat] → pl.toNat < cells.length := by
    intro q
    by_cases e : pl.toNat < cells.length
    · exact e
    · rw [List.getElem_append_right (by omega)] at q
      simp at q
  generalize (cells ++ [0])[pl.toNat] = c at q4 c0 inside ⊢
  refine ⟨_, rfl, _, _, _, _, rfl, rfl, SqL.of ht2, at_of q3 q4, ?_⟩
  refine ⟨_, rfl, _, _, rfl, rfl, ⟨by decide, by decide, by decide⟩, _, _, rfl, rfl, _, rfl, ite3 (fun e => ?_) (fun e => ?_)⟩
  · have e : 1000000000000000000 ≤ c := e
    have p1 := inside e
    have ix : ixN (cells.map V.int).length pl = some pl.toNat := by
      unfold ixN
      rw [if_pos q0, if_pos (by omega)]
    refine ⟨_, rfl, _, rfl, _, _, rfl, rfl, div_draw m0 m1, _, rfl, _, _, _, _, rfl, rfl, SqL.of hp2, atI_nat (j := 0) rfl, _, rfl, _, _, _, _, rfl, rfl, hl2, ix, ?_⟩
    refine ⟨_, rfl, .inl ⟨_, rfl, _, rfl, _, _, rfl, rfl, (by omega), ?_⟩⟩
    have fm : c.fmod m = c % m := fmod_pos m0
    refine k _ _ (by rw [fm]; exact Int.emod_nonneg _ (by omega)) (by rw [fm]; exact Int.emod_lt_of_pos _ m0) (f2.trans fun b o _ h2 h => by rw [upd_ne h2]; exact h) ⟨by rw [upd_ne npl]; exact hp2, cells.set pl.toNat (c / m), by rw [upd_same, List.map_set], fun y hy => ?_, by rw [List.length_set]; exact h63⟩
    rcases List.mem_or_eq_of_mem_set hy with q | q
    · exact hc y q
    · rw [q]; exact Int.ediv_nonneg c0 (by omega)
  · refine ⟨_, rfl, .inl ⟨_, rfl, _, _, rfl, rfl, (show (2147483587 : Int) ≠ 0 by decide), _, rfl, _, _, _, _, rfl, rfl, SqL.of hp2, atI_nat (j := 1) rfl, _, _, rfl, rfl, .inl ⟨by decide, by decide⟩, _, _, rfl, rfl, _, _, rfl, rfl, ?_⟩⟩
    have fm : c.fmod 2147483587 = c % 2147483587 := fmod_pos (by decide)
    have h0 := Int.emod_nonneg c (show (2147483587 : Int) ≠ 0 by decide)
    have h1 := Int.emod_lt_of_pos c (show (0 : Int) < 2147483587 by decide)
    refine ⟨_, _, rfl, rfl, ⟨by decide, by decide, by rw [fm]; omega⟩, ?_⟩
    refine ⟨_, rfl, .inl ⟨_, rfl, _, _, rfl, rfl, (show (2147483647 : Int) ≠ 0 by decide), .inl ⟨_, rfl, _, rfl, _, _, rfl, rfl, (by omega), ?_⟩⟩⟩
    refine k _ _ ?_ ?_ f2 ⟨hp2, cells, hl2, hc, h63⟩
    · rw [fmod_pos m0]; exact Int.emod_nonneg _ (by omega)
    · rw [fmod_pos m0]; exact Int.emod_lt_of_pos _ m0
end
end Sm

set_option Elab.async false
set_option linter.all false
set_option maxRecDepth 100000
set_option maxHeartbeats 16000000
namespace Sm
open PySem PySem.Spec PyProof.Rows L2
open C8 (pss_cut tCut)
theorem RB.divW {T : List Int} {p : Nat} {r x : Int} (b : RB T p r) (o : RuleW T p r) : CDivW x (p : Int) := by
  have := b.len
  have := o.p0
  have := o.p1
  exact wide_div (b := 15) (by omega) (by omega) (by decide) (by decide)
theorem RB.mulRW {T : List Int} {p : Nat} {r x : Int} (b : RB T p r) (o : RuleW T p r) : CMul x r := by
  have := b.r1
  have := o.r0
  exact .inr ⟨by omega, by omega⟩
theorem RB.mulR'W {T : List Int} {p : Nat} {r x : Int} (b : RB T p r) (o : RuleW T p r) : CMul r x := by
  have := b.r1
  have := o.r0
  exact .inl ⟨by omega, by omega⟩
theorem RB.mulPW {T : List Int} {p : Nat} {r x : Int} (b : RB T p r) (o : RuleW T p r) : CMul x (p : Int) := by
  have := b.len
  have := o.p1
  exact .inr ⟨by omega, by omega⟩
theorem RB.div {T : List Int} {p : Nat} {r x : Int} (b : RB T p r) (o : RuleOk T p r) : CDivW x (p : Int) := by
  have := b.len
  have := o.p0
  have := o.p1
  exact wide_div (b := 15) (by omega) (by omega) (by decide) (by decide)
theorem RB.mulR {T : List Int} {p : Nat} {r x : Int} (b : RB T p r) (o : RuleOk T p r) : CMul x r := by
  have := b.r1
  have := o.r0
  exact .inr ⟨by omega, by omega⟩
theorem RB.mulR' {T : List Int} {p : Nat} {r x : Int} (b : RB T p r) (o : RuleOk T p r) : CMul r x := by
  have := b.r1
  have := o.r0
  exact .inl ⟨by omega, by omega⟩
theorem RB.mulP {T : List Int} {p : Nat} {r x : Int} (b : RB T p r) (o : RuleOk T p r) : CMul x (p : Int) := by
  have := b.len
  have := o.p1
  exact .inr ⟨by omega, by omega⟩
theorem len_int (T : List Int) : (((T.map V.int).length : Nat) : Int) = (T.length : Int) := by rw [List.length_map]
theorem turns_eq {T : List Int} {p x : Nat} (h : T.length ≤ x) : ((x : Int) - (((T.map V.int).length : Nat) : Int)) / (p : Int) + 1 = (((x - T.length) / p + 1 : Nat) : Int) := by
  rw [len_int]
  exact div_cast h
theorem index_eq {q p x : Nat} (h : q * p ≤ x) : (x : Int) - (q : Int) * (p : Int) = ((x - q * p : Nat) : Int) := by
  rw [Int.natCast_sub h, Int.natCast_mul]
/-- small rules: tables of at most so many members, numbers up to M -/
structure RM (M : Int) (T : List Int) (p : Nat) (r : Int) : Prop where
  len : T.length ≤ 60
  r1 : r ≤ M
  top : ∀ i, i < T.length → T.getD i 0 ≤ M
theorem RM.up {M N : Int} {T : List Int} {p : Nat} {r : Int} (b : RM M T p r) (h : M ≤ N) : RM N T p r := ⟨b.len, Int.le_trans b.r1 h, fun i hi => Int.le_trans (b.top i hi) h⟩
theorem RM.rb {M : Int} {T : List Int} {p : Nat} {r : Int} (b : RM M T p r) (h : M ≤ 10000000000000000) : RB T p r :=
  ⟨by have := b.len; omega, by have := b.r1; omega, fun i hi => by have := b.top i hi; omega⟩
theorem RM.vl {M : Int} {T : List Int} {p : Nat} {r : Int} (o : RuleOk T p r) (b : RM M T p r) (M0 : 0 ≤ M) : ∀ x : Nat, vl T p r x ≤ M * ((x : Int) + 2) := by
  intro x
  induction x using Nat.strongRecOn with
  | _ x ih =>
    have p0 := o.p0
    have p1 := o.p1
    have r1 := b.r1
    by_cases q : x < T.length
    · rw [vl_lt q]
      have := b.top x q
      have h2 : M * 1 ≤ M * ((x : Int) + 2) := Int.mul_le_mul_of_nonneg_left (by omega) M0
      omega
    · rw [vl_step p0 o.p1 (by omega)]
      have h1 := ih (x - p) (by omega)
      have h2 : M * (((x - p : Nat) : Int) + 2 + 1) ≤ M * ((x : Int) + 2) := Int.mul_le_mul_of_nonneg_left (by omega) M0
      rw [Int.mul_add, Int.mul_one] at h2
      omega
/-- what the search looks at is small too -/
theorem found_rm {M : Int} {T : List Int} {p few per : Nat} {r : Int} (o : RuleOk T p r) (b : RM M T p r) (M0 : 0 ≤ M) (fl : few ≤ T.length) : RM (M * 100) (tabF T p r few) per (riseF T p r few per) := by
  have bl := b.len
  have key : ∀ x : Nat, x ≤ 60 → Sm.vl T p r x ≤ M * 100 := fun x hx => Int.le_trans (RM.vl o b M0 x) (Int.mul_le_mul_of_nonneg_left (by omega) M0)
  refine ⟨by rw [tabF_len]; omega, ?_, fun i hi => ?_⟩
  · have := key few (by omega)
    have := o.pos (few - per)
    unfold riseF
    omega
  · rw [tabF_len] at hi
    rw [tabF_get hi]
    exact key i (by omega)
def sp_l_value (_ : PySem.W.Frag) : Sp := fun vs H Q _ => ∃ (d : Addr) (T : List Int) (p : Nat) (r : Int) (x : Nat), vs = [.ref d, .int (x : Int)] ∧ RuleAt H d T p r ∧ RuleW T p r ∧ RB T p r ∧ Q (.int (vl T p r x)) H
def sp_l_fits (_ : PySem.W.Frag) : Sp := fun vs H Q _ => ∃ (d : Addr) (T : List Int) (p : Nat) (r : Int) (few per : Nat) (M : Int), vs = [.ref d, .int (few : Int), .int (per : Int)] ∧ RuleAt H d T p r ∧ RuleOk T p r ∧ RM M T p r ∧ 0 ≤ M ∧ M ≤ 10000000000000 ∧ 0 < per ∧ per ≤ few ∧ few ≤ T.length ∧
  (∀ H', Same H H' → ¬ Fits T p r few per → Q .non H') ∧ (∀ H' q, Same H H' → Fits T p r few per → RuleAt H' q (tabF T p r few) per (riseF T p r few per) → Q (.ref q) H')
def sp_l_short (_ : PySem.W.Frag) : Sp := fun vs H Q _ => ∃ (d : Addr) (T : List Int) (p : Nat) (r : Int) (M : Int), vs = [.ref d] ∧ RuleAt H d T p r ∧ RuleOk T p r ∧ RM M T p r ∧ 0 ≤ M ∧ M ≤ 10000000000000 ∧
  ∀ H' q T' p' r', Same H H' → RuleAt H' q T' p' r' → Short T' p' r' → (∀ x, vl T' p' r' x = vl T p r x) → T'.length ≤ T.length → RM (M * 100) T' p' r' → Q (.ref q) H'
section
variable {P : Program} {w : World} {K : PySem.W.Frag} {mg : Str → Option Value} {base : Heap}
abbrev s_l_value : Stmt := topS 45
abbrev N_l_value : List Str := ["_law_rule", "_law_x", "_law_table", "_law_period", "_law_rise", "_law_turns"]
theorem sc_l_value : FnScope N_l_value ["_law_rule", "_law_x"] (defScope s_l_value) := ⟨rfl, rfl, rfl, by decide +kernel, rfl, by decide +kernel, by decide +kernel⟩
theorem ok_l_value (T : Txt mg) (D : Df K mg "_law_value" s_l_value ["_law_rule", "_law_x"]) : Cal P w K mg base "_law_value" ["_law_rule", "_law_x"] 1 (sp_l_value K) := by
  refine D.cal sc_l_value (fun vs H Q E h => ?_) (fun f cdv A outer s H vs Q E hr h => ?_)
  · obtain ⟨d, T0, p, r, x, rfl, _⟩ := h
    rfl
  obtain ⟨d, T0, p, r, x, rfl, ⟨t, hd, ht⟩, o, b, k⟩ := h
  have p0 := o.p0
  have p1 := o.p1
  obtain ⟨a1, a2, a3⟩ := qt_ok (r := r) x p0 p1
  have qi := qt_int (T := T0) (x := x) p0
  rw [a3] at k
  refine ⟨_, (pss_cons (ps_asg (pv 0) (pg_tup (by rfl) (pgs_cons (pg_name (i := 2) sc_l_value.nd rfl (Or.inl rfl)) (pgs_cons (pg_name (i := 3) sc_l_value.nd rfl (Or.inl rfl)) (pgs_cons (pg_name (i := 4) sc_l_value.nd rfl (Or.inl rfl)) pgs_nil)))))
    (pss_cons (ps_set (i := 5) sc_l_value.nd rfl (Or.inl rfl) (pe_callB (call_max2 rfl) (by rfl) T.n_max (by decide +kernel) (pa_cons pe_int (pa_cons (pe_op op_add (pe_op op_fdivW (pe_op op_sub (pv 1) (pe_callB call_len_seq (by rfl) T.n_len (by decide +kernel) (pa_cons (pv 2) pa_nil))) (pv 3)) pe_int) pa_nil))))
    (pss_one (ps_ret (pe_op op_add (pe_ix ix_tup (pv 2) (pe_op op_sub (pv 1) (pe_op op_mul (pv 5) (pv 3))) (fun _ _ => rfl)) (pe_op op_mul (pv 5) (pv 4))))))), ?_⟩
  refine ⟨_, rfl, _, _, rfl, SqT.of hd, rfl, _, _, rfl, _, _, rfl, _, _, rfl, rfl, ?_⟩
  refine ⟨_, rfl, _, rfl, _, _, rfl, .inr (SqT.of ht), _, _, rfl, rfl, _, rfl, _, _, rfl, rfl, b.divW o, _, _, rfl, rfl, _, _, rfl, ?_⟩
  rw [← len_int T0] at qi
  have z : ∀ B : Int → Prop, B ((qt T0 p x : Nat) : Int) → B (if ((x : Int) - (((T0.map V.int).length : Nat) : Int)) / (p : Int) + 1 > 0 then ((x : Int) - (((T0.map V.int).length : Nat) : Int)) / (p : Int) + 1 else 0) := fun B h => by rw [qi]; exact h
  refine z (fun y => gName 5 (.int y) _ _ _) ?_
  clear z qi
  generalize qt T0 p x = q at a1 a2 a3 k ⊢
  have ix : (x : Int) - (q : Int) * (p : Int) = ((x - q * p : Nat) : Int) := by
    have e : ((q * p : Nat) : Int) = (q : Int) * (p : Int) := Int.natCast_mul ..
    omega
  exact ⟨_, rfl, _, rfl, _, rfl, _, rfl, _, _, rfl, rfl, b.mulPW o, _, _, rfl, rfl, _, _, _, _, rfl, rfl, SqT.of ht, at_of ix (get_int a2), _, rfl, _, rfl, _, _, rfl, rfl, b.mulRW o, _, _, rfl, rfl, k⟩
abbrev s_l_fits : Stmt := topS 46
abbrev N_l_fits : List Str := ["_law_rule", "_law_few", "_law_period", "_law_table", "_law_found", "_law_x"]
theorem sc_l_fits : FnScope N_l_fits ["_law_rule", "_law_few", "_law_period"] (defScope s_l_fits) := ⟨rfl, rfl, rfl, by decide +kernel, rfl, by decide +kernel, by decide +kernel⟩
theorem ok_l_fits (T : Txt mg) (D : Df K mg "_law_fits" s_l_fits ["_law_rule", "_law_few", "_law_period"]) (C_l_value : Cal P w K mg base "_law_value" ["_law_rule", "_law_x"] 1 (sp_l_value K)) : Cal P w K mg base "_law_fits" ["_law_rule", "_law_few", "_law_period"] 2 (sp_l_fits K) := by
  obtain ⟨f_l_value, fd_l_value, G_l_value, m_l_value, k_l_value, b_l_value⟩ := C_l_value
  refine D.cal sc_l_fits (fun vs H Q E h => ?_) (fun f cdv A outer s H vs Q E hr h => ?_)
  · obtain ⟨d, T0, p, r, few, per, M, rfl, _⟩ := h
    rfl
  obtain ⟨d, T0, p, r, few, per, M, rfl, R, o, b, M0, M1, per0, per1, fl, kn, kf⟩ := h
  obtain ⟨t, hd, ht⟩ := id R
  have bl := b.len
  have p0 := o.p0
  have p1 := o.p1
  have bb := b.rb (by omega)
  have fm := found_rm o b M0 fl (per := per)
  have fw := tabF_w o per0 per1
  have fb := fm.rb (by omega)
  refine ⟨_, (pss_cons (ps_set (i := 3) sc_l_fits.nd rfl (Or.inl rfl) (pe_callTy call_tuple_of (by rfl) T.n_tuple (by decide +kernel) (pa_cons (pe_lc (own := [("_law_x", 5)]) (g := gName 5) (tt := tYes) rfl sc_l_fits.nd (pi_range1 (by rfl) T.n_range (pa_cons (pv 1) pa_nil)) (blkOk_by (own := [("_law_x", 5)]) (N := N_l_fits) (sc := defScope s_l_fits) (by decide +kernel)) (fun _ _ _ _ _ => pg_name (i := 5) sc_l_fits.nd rfl (Or.inl rfl)) (fun _ _ _ _ _ => pts_nil) (fun _ _ _ _ _ => (pe_call G_l_value (hr.mono (by decide)) (by rfl) m_l_value k_l_value b_l_value .nil pass0 (pa_cons (pv 0) (pa_cons (pv 5) pa_nil))))) pa_nil)))
    (pss_cons (ps_set (i := 4) sc_l_fits.nd rfl (Or.inl rfl) (pe_tup (pa_cons (pv 3) (pa_cons (pv 2) (pa_cons (pe_op op_sub (pe_call G_l_value (hr.mono (by decide)) (by rfl) m_l_value k_l_value b_l_value .nil pass0 (pa_cons (pv 0) (pa_cons (pv 1) pa_nil))) (pe_ix ix_tup (pv 3) (pe_op op_sub (pv 1) (pv 2)) (fun _ _ => rfl))) pa_nil)))))
    (pss_cons (ps_for PassesOwn.never rfl (pi_range2 (by rfl) T.n_range (pa_cons (pv 1) (pa_cons (pe_op op_add (pe_op op_add (pe_op op_mul pe_int (pe_callB call_len_seq (by rfl) T.n_len (by decide +kernel) (pa_cons (pe_ix ix_tup (pv 0) pe_int (fun _ _ => rfl)) pa_nil))) (pe_op op_mul (pe_op op_mul pe_int (pe_ix ix_tup (pv 0) pe_int (fun _ _ => rfl))) (pv 2))) (pv 1)) pa_nil))) (pg_name (i := 5) sc_l_fits.nd rfl (Or.inl rfl))
      (pss_one (ps_if (pt_cmpR op_ne (pe_call G_l_value (hr.mono (by decide)) (by rfl) m_l_value k_l_value b_l_value .nil pass0 (pa_cons (pv 4) (pa_cons (pv 5) pa_nil))) (pe_call G_l_value (hr.mono (by decide)) (by rfl) m_l_value k_l_value b_l_value .nil pass0 (pa_cons (pv 0) (pa_cons (pv 5) pa_nil))) (nomark _)) (pss_one (ps_ret pe_non)) pss_nil)))
    (pss_one (ps_ret (pv 4)))))), ?_⟩
  refine ⟨_, rfl, _, rfl, by omega, by omega, fun U nU => ?_⟩
  refine lc_mR (n := few) (fun i => .int (vl T0 p r i)) nU (by omega) ?_ gName_mono ?_
  · intro i H' hi s' R' hR
    rw [Int.zero_add]
    exact ⟨rfl, _, rfl, _, rfl, d, T0, p, r, i, rfl, R.same s', o.w, bb, hR H' (Same.refl _)⟩
  intro H1 s1 hU
  have hU : H1 U = some (.lst ((tabF T0 p r few).map V.int)) := by rw [hU]; unfold tabF; rw [List.map_map]; rfl
  refine ⟨_, _, rfl, .inl ⟨SqL.of hU, fun tb nt => ?_⟩⟩
  have s2 := s1.trans (same_upd (o := .tup ((tabF T0 p r few).map V.int)) nt)
  have htb : upd H1 tb (.tup ((tabF T0 p r few).map V.int)) tb = some (.tup ((tabF T0 p r few).map V.int)) := upd_same
  generalize upd H1 tb (.tup ((tabF T0 p r few).map V.int)) = H2 at s2 htb ⊢
  refine ⟨_, rfl, _, rfl, _, rfl, _, rfl, d, T0, p, r, few, rfl, R.same s2, o.w, bb, ?_⟩
  have ix : (few : Int) - (per : Int) = ((few - per : Nat) : Int) := by omega
  refine ⟨_, rfl, _, rfl, _, rfl, _, _, rfl, rfl, _, _, _, _, rfl, rfl, SqT.of htb, at_of ix (get_int (by rw [tabF_len]; omega)), _, _, rfl, rfl, (by show 3 ≤ sizeLine; decide), fun q nq => ?_⟩
  rw [tabF_get (show few - per < few by omega)]
  have s3 := s2.trans (same_upd (o := .tup [.ref tb, .int (per : Int), .int (vl T0 p r few - vl T0 p r (few - per))]) nq)
  have hq : upd H2 q (.tup [.ref tb, .int (per : Int), .int (vl T0 p r few - vl T0 p r (few - per))]) q = some (.tup [.ref tb, .int (per : Int), .int (riseF T0 p r few per)]) := upd_same
  have htb := same_upd (o := .tup [.ref tb, .int (per : Int), .int (vl T0 p r few - vl T0 p r (few - per))]) nq _ _ htb
  generalize upd H2 q (.tup [.ref tb, .int (per : Int), .int (vl T0 p r few - vl T0 p r (few - per))]) = H3 at s3 hq htb ⊢
  have RF : RuleAt H3 q (tabF T0 p r few) per (riseF T0 p r few per) := ⟨tb, hq, htb⟩
  refine ⟨_, rfl, _, rfl, _, _, _, _, rfl, rfl, SqT.of (s3 _ _ hd), atI_nat (j := 0) rfl, _, _, rfl, .inr (SqT.of (s3 _ _ ht)), _, _, rfl, rfl, .inl ⟨by decide, by decide⟩, _, rfl, _, _, _, _, rfl, rfl, SqT.of (s3 _ _ hd), atI_nat (j := 1) rfl, _, _, rfl, rfl, .inl ⟨by decide, by decide⟩, _, rfl, _, _, rfl, rfl, .inr ⟨by omega, by omega⟩, _, _, rfl, rfl, _, rfl, _, _, rfl, rfl, ?_⟩
  have pp : p * per ≤ 60 * 60 := Nat.mul_le_mul (by omega) (by omega)
  have pe : 2 * (p : Int) * (per : Int) = ((2 * p * per : Nat) : Int) := by rw [Int.natCast_mul, Int.natCast_mul]; rfl
  have pm : 2 * p * per = 2 * (p * per) := Nat.mul_assoc ..
  have en : 2 * (((T0.map V.int).length : Nat) : Int) + 2 * (p : Int) * (per : Int) + (few : Int) = ((2 * T0.length + 2 * p * per + few : Nat) : Int) := by rw [len_int, pe]; omega
  refine ⟨_, _, rfl, ⟨by omega, by omega, by rw [en]; omega, by rw [en]; omega⟩, ?_⟩
  rw [show Int.toNat (2 * (((T0.map V.int).length : Nat) : Int) + 2 * (p : Int) * (per : Int) + (few : Int) - (few : Int)) = 2 * T0.length + 2 * p * per by rw [en]; omega]
  refine for_range (lo := (few : Int)) (n := 2 * T0.length + 2 * p * per) (fun i σ H' => ∃ v5 : Option V, σ = [some (.ref d), some (.int (few : Int)), some (.int (per : Int)), some (.ref tb), some (.ref q), v5] ∧ Same H3 H' ∧ ∀ j, j < i → vl (tabF T0 p r few) per (riseF T0 p r few per) (few + j) = vl T0 p r (few + j))
    ⟨none, rfl, Same.refl _, fun j hj => absurd hj (Nat.not_lt_zero _)⟩ ?_ ?_
  · rintro i σ H4 hi ⟨v5, rfl, s4, al⟩
    rw [show (few : Int) + (i : Int) = ((few + i : Nat) : Int) by omega]
    refine ⟨_, rfl, _, rfl, q, _, per, _, few + i, rfl, RF.same s4, fw, fb, _, rfl, _, rfl, d, T0, p, r, few + i, rfl, R.same (s3.trans s4), o.w, bb, rfl, _, rfl, ?_⟩
    by_cases c : vl (tabF T0 p r few) per (riseF T0 p r few per) (few + i) = vl T0 p r (few + i)
    · refine iteNP (congrArg V.int c) ⟨_, rfl, s4, fun j hj => ?_⟩
      rcases Nat.lt_or_ge j i with e | e
      · exact al j e
      · rw [show j = i by omega]
        exact c
    · exact iteNN (fun e => c (V.int.inj e)) (kn H4 (s3.trans s4) fun f => c (f _))
  · rintro σ H4 ⟨v5, rfl, s4, al⟩
    exact ⟨_, rfl, kf H4 q (s3.trans s4) (fits_of o per0 per1 al) (RF.same s4)⟩
abbrev s_l_short : Stmt := topS 47
abbrev N_l_short : List Str := ["_law_rule", "_law_few", "_law_period", "_law_found"]
theorem sc_l_short : FnScope N_l_short ["_law_rule"] (defScope s_l_short) := ⟨rfl, rfl, rfl, by decide +kernel, rfl, by decide +kernel, by decide +kernel⟩
theorem ok_l_short (T : Txt mg) (D : Df K mg "_law_short" s_l_short ["_law_rule"]) (C_l_fits : Cal P w K mg base "_law_fits" ["_law_rule", "_law_few", "_law_period"] 2 (sp_l_fits K)) : Cal P w K mg base "_law_short" ["_law_rule"] 3 (sp_l_short K) := by
  obtain ⟨f_l_fits, fd_l_fits, G_l_fits, m_l_fits, k_l_fits, b_l_fits⟩ := C_l_fits
  refine D.cal sc_l_short (fun vs H Q E h => ?_) (fun f cdv A outer s H vs Q E hr h => ?_)
  · obtain ⟨d, T0, p, r, M, rfl, _⟩ := h
    rfl
  obtain ⟨d, T0, p, r, M, rfl, R, o, b, M0, M1, k⟩ := h
  obtain ⟨t, hd, ht⟩ := id R
  have bl := b.len
  have ll := len_int T0
  refine ⟨_, (pss_cons (ps_for PassesOwn.never rfl (pi_range2 (by rfl) T.n_range (pa_cons pe_int (pa_cons (pe_op op_add (pe_callB call_len_seq (by rfl) T.n_len (by decide +kernel) (pa_cons (pe_ix ix_tup (pv 0) pe_int (fun _ _ => rfl)) pa_nil)) pe_int) pa_nil))) (pg_name (i := 1) sc_l_short.nd rfl (Or.inl rfl))
      (pss_one (ps_for PassesOwn.never rfl (pi_range2 (by rfl) T.n_range (pa_cons pe_int (pa_cons (pe_op op_add (pv 1) pe_int) pa_nil))) (pg_name (i := 2) sc_l_short.nd rfl (Or.inl rfl))
      (pss_cons (ps_set (i := 3) sc_l_short.nd rfl (Or.inl rfl) (pe_call G_l_fits (hr.mono (by decide)) (by rfl) m_l_fits k_l_fits b_l_fits .nil pass0 (pa_cons (pv 0) (pa_cons (pv 1) (pa_cons (pv 2) pa_nil)))))
    (pss_one (ps_if (pt_cmpR op_notN (pv 3) pe_non (nomark _)) (pss_one (ps_ret (pv 3))) pss_nil))))))
    (pss_one (ps_ret (pv 0)))), ?_⟩
  refine ⟨_, rfl, _, _, _, _, rfl, rfl, SqT.of hd, atI_nat (j := 0) rfl, _, _, rfl, .inr (SqT.of ht), _, _, rfl, rfl, _, _, rfl, ⟨by omega, by omega, by rw [ll]; omega, by rw [ll]; omega⟩, ?_⟩
  rw [show Int.toNat ((((T0.map V.int).length : Nat) : Int) + 1 - 1) = T0.length by rw [ll]; omega]
  refine for_range (lo := 1) (n := T0.length) (fun i σ H' => ∃ v1 v2 v3 : Option V, σ = [some (.ref d), v1, v2, v3] ∧ Same H H' ∧ ∀ a b, a < i + 1 → 0 < b → b ≤ a → ¬ Fits T0 p r a b)
    ⟨none, none, none, rfl, Same.refl _, fun a b h1 h2 h3 => by omega⟩ ?_ ?_
  · rintro i σ H1 hi ⟨v1, v2, v3, rfl, s1, no⟩
    rw [show (1 : Int) + (i : Int) = ((i + 1 : Nat) : Int) by omega]
    refine ⟨_, rfl, _, _, rfl, rfl, _, _, rfl, ⟨by omega, by omega, by omega, by omega⟩, ?_⟩
    rw [show Int.toNat (((i + 1 : Nat) : Int) + 1 - 1) = i + 1 by omega]
    refine for_range (lo := 1) (n := i + 1) (fun j σ H' => ∃ v2 v3 : Option V, σ = [some (.ref d), some (.int ((i + 1 : Nat) : Int)), v2, v3] ∧ Same H H' ∧ ∀ b, b < j + 1 → 0 < b → ¬ Fits T0 p r (i + 1) b)
      ⟨v2, v3, rfl, s1, fun b h1 h2 => by omega⟩ ?_ ?_
    · rintro j σ H2 hj ⟨v2, v3, rfl, s2, no2⟩
      rw [show (1 : Int) + (j : Int) = ((j + 1 : Nat) : Int) by omega]
      refine ⟨_, rfl, _, rfl, _, rfl, d, T0, p, r, i + 1, j + 1, M, rfl, R.same s2, o, b, M0, M1, by omega, by omega, by omega, fun H3 s3 nf => ?_, fun H3 q s3 f RF => ?_⟩
      · refine ⟨_, rfl, rfl, _, rfl, iteNP rfl ⟨_, _, rfl, s2.trans s3, fun b h1 h2 => ?_⟩⟩
        rcases Nat.lt_or_ge b (j + 1) with e | e
        · exact no2 b e h2
        · rw [show b = j + 1 by omega]
          exact nf
      · refine ⟨_, rfl, rfl, _, rfl, iteNN (fun e => nomatch e) ⟨_, rfl, ?_⟩⟩
        exact k H3 q _ _ _ (s2.trans s3) RF (found_short o (by omega) (by omega) f fun a b h1 h2 h3 => no a b h1 h2 h3) f (by rw [tabF_len]; omega) (found_rm o ‹RM M T0 p r› M0 (by omega))
    · rintro σ H2 ⟨v2, v3, rfl, s2, no2⟩
      refine ⟨_, _, _, rfl, s2, fun a b h1 h2 h3 => ?_⟩
      rcases Nat.lt_or_ge a (i + 1) with e | e
      · exact no a b e h2 h3
      · rw [show a = i + 1 by omega]
        exact no2 b (by omega) h2
  · rintro σ H1 ⟨v1, v2, v3, rfl, s1, no⟩
    obtain ⟨few, per, h1, h2, h3, f⟩ := found_some o
    exact absurd f (no few per (by omega) h1 h2)
end
end Sm

set_option Elab.async false
set_option linter.all false
set_option maxRecDepth 100000
set_option maxHeartbeats 16000000
namespace Sm
open PySem PySem.Spec PyProof.Rows L2
open C8 (pss_cut tCut)
theorem getD_app {T : List Int} {x : Int} {i : Nat} : (T ++ [x]).getD i 0 = if i < T.length then T.getD i 0 else if i = T.length then x else 0 := by
  rw [List.getD_eq_getElem?_getD, List.getD_eq_getElem?_getD, List.getElem?_append]
  by_cases h : i < T.length
  · rw [if_pos h, if_pos h]
  · rw [if_neg h, if_neg h]
    by_cases e : i = T.length
    · rw [if_pos e, e, Nat.sub_self]
      rfl
    · rw [if_neg e, List.getElem?_eq_none (by rw [List.length_singleton]; omega)]
      rfl
/-- a small table -/
structure Tz (T : List Int) : Prop where
  ne : 0 < T.length
  nn : ∀ i, i < T.length → 0 ≤ T.getD i 0
  mono : ∀ i, i + 1 < T.length → T.getD i 0 ≤ T.getD (i + 1) 0
  top : ∀ i, i < T.length → T.getD i 0 ≤ 10 * ((i : Int) + 1)
  inc : ∀ i, i + 1 < T.length → T.getD (i + 1) 0 ≤ T.getD i 0 + 9
theorem Tz.more {T : List Int} (t : Tz T) {c : Int} (c0 : 0 ≤ c) (c1 : c ≤ 9) : Tz (T ++ [T.getD (T.length - 1) 0 + c]) := by
  have n := t.ne
  have l := t.nn (T.length - 1) (by omega)
  have u := t.top (T.length - 1) (by omega)
  refine ⟨by rw [List.length_append]; omega, fun i hi => ?_, fun i hi => ?_, fun i hi => ?_, fun i hi => ?_⟩
  · rw [List.length_append, List.length_singleton] at hi
    rw [getD_app]
    split
    · exact t.nn i (by assumption)
    · rw [if_pos (by omega)]
      omega
  · rw [List.length_append, List.length_singleton] at hi
    rw [getD_app, getD_app, if_pos (by omega)]
    split
    · exact t.mono i (by assumption)
    · rw [if_pos (by omega), show i = T.length - 1 by omega]
      omega
  · rw [List.length_append, List.length_singleton] at hi
    rw [getD_app]
    split
    · exact t.top i (by assumption)
    · rw [if_pos (by omega), show i = T.length by omega]
      omega
  · rw [List.length_append, List.length_singleton] at hi
    rw [getD_app, getD_app, if_pos (show i < T.length by omega)]
    split
    · exact t.inc i (by assumption)
    · rw [if_pos (by omega), show i = T.length - 1 by omega]
      omega
/-- how steep it is at most -/
theorem Tz.slope {T : List Int} (t : Tz T) : ∀ p : Nat, p < T.length → T.getD (T.length - 1) 0 ≤ T.getD (T.length - (p + 1)) 0 + 9 * (p : Int)
  | 0, _ => by show T.getD (T.length - 1) 0 ≤ T.getD (T.length - 1) 0 + 9 * ((0 : Nat) : Int); omega
  | p + 1, h => by
    have a := t.slope p (by omega)
    have b := t.inc (T.length - (p + 1 + 1)) (by omega)
    rw [show T.length - (p + 1 + 1) + 1 = T.length - (p + 1) by omega] at b
    omega
theorem Tz.one {z : Int} (z0 : 0 ≤ z) (z1 : z ≤ 10) : Tz [z] := by
  refine ⟨by show 0 < 1; decide, fun i hi => ?_, fun i hi => ?_, fun i hi => ?_, fun i hi => by have hi : i + 1 < 1 := hi; omega⟩
  · have hi : i < 1 := hi
    rw [show i = 0 by omega]
    exact z0
  · have hi : i + 1 < 1 := hi
    omega
  · have hi : i < 1 := hi
    rw [show i = 0 by omega]
    show z ≤ 10 * (((0 : Nat) : Int) + 1)
    omega
theorem Tz.rising {T : List Int} (t : Tz T) {p : Nat} {c : Int} (p0 : 0 < p) (p1 : p ≤ T.length) (c0 : 0 ≤ c) : RuleOk T p (T.getD (T.length - 1) 0 - T.getD (T.length - p) 0 + c) := by
  have up : T.getD (T.length - p) 0 ≤ T.getD (T.length - 1) 0 := by
    have z : RuleOk T 1 0 := ⟨by decide, t.ne, by decide, t.nn, t.mono, by omega⟩
    exact z.row (by omega) (by omega)
  exact ⟨p0, p1, by omega, t.nn, t.mono, by omega⟩
def sp_l_drawn (_ : PySem.W.Frag) : Sp := fun vs H Q _ => ∃ (p l : Addr) (n upto : Int), vs = [.ref p, .int upto] ∧ Deck H p l n ∧ 0 ≤ n ∧ n ≤ 900000 ∧ 1 ≤ upto ∧ upto ≤ 7 ∧
  ∀ H' d T q r n', Fr p l H H' → Deck H' p l n' → n ≤ n' → n' ≤ n + 50 → RuleAt H' d T q r → RuleOk T q r → RM 100 T q r → r ≤ 9 * (q : Int) → (T.length : Int) ≤ upto → Q (.ref d) H'
/-- what a draw needs of the deck, and an item of a list of four -/
theorem list_ne {H : Hp} {p l b : Addr} {n : Int} {xs : List V} (D : Deck H p l n) (h : H b = none) : b ≠ p ∧ b ≠ l := D.lne h
section
variable {P : Program} {w : World} {K : PySem.W.Frag} {mg : Str → Option Value} {base : Heap}
abbrev s_l_drawn : Stmt := topS 44
abbrev N_l_drawn : List Str := ["_law_deck_here", "_law_upto", "_law_table", "_law_k", "_law_period"]
theorem sc_l_drawn : FnScope N_l_drawn ["_law_deck_here", "_law_upto"] (defScope s_l_drawn) := ⟨rfl, rfl, rfl, by decide +kernel, rfl, by decide +kernel, by decide +kernel⟩
theorem ok_l_drawn (T : Txt mg) (D : Df K mg "_law_drawn" s_l_drawn ["_law_deck_here", "_law_upto"]) (C_l_draw : Cal P w K mg base "_law_draw" ["_law_deck_here", "_law_many"] 1 (sp_l_draw K)) : Cal P w K mg base "_law_drawn" ["_law_deck_here", "_law_upto"] 2 (sp_l_drawn K) := by
  obtain ⟨f_l_draw, fd_l_draw, G_l_draw, m_l_draw, k_l_draw, b_l_draw⟩ := C_l_draw
  refine D.cal sc_l_drawn (fun vs H Q E h => ?_) (fun f cdv A outer s H vs Q E hr h => ?_)
  · obtain ⟨p, l, n, upto, rfl, _⟩ := h
    rfl
  obtain ⟨p, l, n, upto, rfl, D0, n0, n1, u0, u1, k⟩ := h
  refine ⟨_, (pss_cons (ps_set (i := 2) sc_l_drawn.nd rfl (Or.inl rfl) (pe_lst (pa_cons (pe_ix ix_list (pe_lst (pa_cons pe_int (pa_cons pe_int (pa_cons pe_int (pa_cons pe_int pa_nil))))) (pe_call G_l_draw (hr.mono (by decide)) (by rfl) m_l_draw k_l_draw b_l_draw .nil pass0 (pa_cons (pv 0) (pa_cons pe_int pa_nil))) (fun _ _ => rfl)) pa_nil)))
    (pss_cons (ps_for PassesOwn.never rfl (pi_range1 (by rfl) T.n_range (pa_cons (pe_call G_l_draw (hr.mono (by decide)) (by rfl) m_l_draw k_l_draw b_l_draw .nil pass0 (pa_cons (pv 0) (pa_cons (pv 1) pa_nil))) pa_nil)) (pg_name (i := 3) sc_l_drawn.nd rfl (Or.inl rfl))
      (pss_one (ps_expr (pe_bm PySem.F.plainAttrs_list PySem.F.slot_list_append PySem.F.type_list_append mt_append (pv 2) (pa_cons (pe_op op_add (pe_ix ix_list (pv 2) (pe_un un_neg pe_int) (fun _ _ => rfl)) (pe_ix ix_list (pe_lst (pa_cons pe_int (pa_cons pe_int (pa_cons pe_int (pa_cons pe_int (pa_cons pe_int (pa_cons pe_int pa_nil))))))) (pe_call G_l_draw (hr.mono (by decide)) (by rfl) m_l_draw k_l_draw b_l_draw .nil pass0 (pa_cons (pv 0) (pa_cons pe_int pa_nil))) (fun _ _ => rfl))) pa_nil)))))
    (pss_cons (ps_set (i := 4) sc_l_drawn.nd rfl (Or.inl rfl) (pe_op op_add pe_int (pe_call G_l_draw (hr.mono (by decide)) (by rfl) m_l_draw k_l_draw b_l_draw .nil pass0 (pa_cons (pv 0) (pa_cons (pe_callB call_len_seq (by rfl) T.n_len (by decide +kernel) (pa_cons (pv 2) pa_nil)) pa_nil)))))
    (pss_one (ps_ret (pe_tup (pa_cons (pe_callTy call_tuple_of (by rfl) T.n_tuple (by decide +kernel) (pa_cons (pv 2) pa_nil)) (pa_cons (pv 4) (pa_cons (pe_op op_add (pe_op op_sub (pe_ix ix_list (pv 2) (pe_un un_neg pe_int) (fun _ _ => rfl)) (pe_ix ix_list (pv 2) (pe_op op_sub (pe_callB call_len_seq (by rfl) T.n_len (by decide +kernel) (pa_cons (pv 2) pa_nil)) (pv 4)) (fun _ _ => rfl))) (pe_call G_l_draw (hr.mono (by decide)) (by rfl) m_l_draw k_l_draw b_l_draw .nil pass0 (pa_cons (pv 0) (pa_cons pe_int pa_nil)))) pa_nil))))))))), ?_⟩
  -- the first member
  refine ⟨(by show 4 ≤ sizeLine; decide), fun b nb => ?_⟩
  have sb := same_upd (o := .lst [.int 0, .int 0, .int 1, .int 5]) nb
  obtain ⟨bp, bl⟩ := D0.lne nb
  refine ⟨_, rfl, p, l, n, 4, rfl, D0.same sb, by omega, by omega, by omega, by omega, fun i4 H4 i40 i41 f4 D4 => ?_⟩
  obtain ⟨z, zz, hz⟩ := pickI [0, 0, 1, 5] i40 (show i4 < 4 from i41)
  have z0 : 0 ≤ z ∧ z ≤ 10 := by
    simp only [List.mem_cons, List.not_mem_nil, or_false] at zz
    omega
  refine ⟨_, _, _, _, rfl, rfl, SqL.of (f4 b _ bp bl upd_same), at_of (j := i4.toNat) (by omega) hz, ?_⟩
  refine ⟨(by show 1 ≤ sizeLine; decide), fun L nL => ?_⟩
  obtain ⟨Lp, Ll⟩ := D4.lne nL
  have sL := same_upd (o := .lst [.int z]) nL
  have fr : Fr p l H (upd H4 L (.lst [.int z])) := ((Same.fr sb).trans f4).trans (Same.fr sL)
  have D5 := D4.same sL
  have hn : ∀ b o, H b = some o → b ≠ L := by
    intro b o hb e
    subst e
    by_cases q1 : b = p
    · exact Lp q1
    · by_cases q2 : b = l
      · exact Ll q2
      · have := ((Same.fr (p := p) (l := l) sb).trans f4) b o q1 q2 hb
        rw [nL] at this
        cases this
  -- the others
  refine ⟨_, rfl, _, rfl, p, l, n + 1, upto, rfl, D5, by omega, by omega, by omega, by omega, fun m H6 m0 m1 f6 D6 => ?_⟩
  refine ⟨_, rfl, by omega, by omega, ?_⟩
  refine for_range (lo := 0) (n := m.toNat) (fun i σ H' => ∃ (n' : Int) (T0 : List Int) (v : Option V), σ = [some (.ref p), some (.int upto), some (.ref L), v, none] ∧
      Deck H' p l n' ∧ n ≤ n' ∧ n' ≤ n + 4 + (i : Int) ∧ Fr p l H H' ∧ H' L = some (.lst (T0.map V.int)) ∧ T0.length = i + 1 ∧ Tz T0)
    ⟨_, [z], none, rfl, D6, by omega, by omega, fr.trans f6, f6 L _ Lp Ll upd_same, rfl, Tz.one z0.1 z0.2⟩ ?_ ?_
  · rintro i σ H' hi ⟨n', T0, v, rfl, D', a0, a1, f', hL, hT, tb⟩
    refine ⟨_, rfl, .inl ⟨rfl, _, SqL.of hL⟩, ?_⟩
    refine ⟨_, rfl, _, rfl, _, _, _, _, rfl, rfl, SqL.of hL, last_int tb.ne, ?_⟩
    refine ⟨(by show 6 ≤ sizeLine; decide), fun b' nb' => ?_⟩
    have sb' := same_upd (o := .lst [.int 0, .int 0, .int 1, .int 1, .int 2, .int 9]) nb'
    obtain ⟨bp', bl'⟩ := D'.lne nb'
    refine ⟨_, rfl, p, l, n', 6, rfl, D'.same sb', by omega, by omega, by omega, by omega, fun i5 H7 i50 i51 f7 D7 => ?_⟩
    obtain ⟨c, cc, hc⟩ := pickI [0, 0, 1, 1, 2, 9] i50 (show i5 < 6 from i51)
    have c0 : 0 ≤ c ∧ c ≤ 9 := by
      simp only [List.mem_cons, List.not_mem_nil, or_false] at cc
      omega
    have hL7 : H7 L = some (.lst (T0.map V.int)) := f7 L _ Lp Ll (sb' _ _ hL)
    refine ⟨_, _, _, _, rfl, rfl, SqL.of (f7 b' _ bp' bl' upd_same), at_of (j := i5.toNat) (by omega) hc, _, _, rfl, rfl, L, _, _, rfl, rfl, hL7, ?_, ?_⟩
    · rw [List.length_map, hT]
      exact small1000 (by omega)
    · have fL : Fr p l H (upd H7 L (.lst ((T0 ++ [T0.getD (T0.length - 1) 0 + c]).map V.int))) := by
        intro b o h1 h2 hb
        rw [upd_ne (hn b o hb)]
        exact (f'.trans ((Same.fr sb').trans f7)) b o h1 h2 hb
      refine ⟨n' + 1, T0 ++ [T0.getD (T0.length - 1) 0 + c], _, rfl, ⟨by rw [upd_ne Lp.symm]; exact D7.hp, ?_⟩, by omega, by omega, ?_, ?_, ?_, tb.more c0.1 c0.2⟩
      · obtain ⟨cells, q1, q2⟩ := D7.hl
        exact ⟨cells, by rw [upd_ne Ll.symm]; exact q1, q2⟩
      · rw [List.map_append] at fL
        exact fL
      · rw [upd_same, List.map_append]
        rfl
      · rw [List.length_append, List.length_singleton, hT]
  · rintro σ H' ⟨n', T0, v, rfl, D', a0, a1, f', hL, hT, tb⟩
    have hlen : (T0.length : Int) ≤ upto := by omega
    have ll := len_int T0
    refine ⟨_, rfl, _, rfl, _, _, rfl, .inl (SqL.of hL), p, l, n', _, rfl, D', by omega, by omega, by rw [ll]; omega, by rw [ll]; omega, fun rp H7 rp0 rp1 f7 D7 => ?_⟩
    rw [ll] at rp1
    have hL7 := f7 L _ Lp Ll hL
    refine ⟨_, _, rfl, rfl, _, rfl, L, _, rfl, .inl ⟨SqL.of hL7, fun t nt => ?_⟩⟩
    have st := same_upd (o := .tup (T0.map V.int)) nt
    have gs : (T0.map V.int)[T0.length - (1 + rp).toNat]? = some (.int (T0.getD (T0.length - (1 + rp).toNat) 0)) := get_int (by omega)
    refine ⟨_, rfl, _, rfl, _, rfl, _, _, _, _, rfl, rfl, SqL.of (st _ _ hL7), last_int tb.ne, _, rfl, _, rfl, _, _, rfl, .inl (SqL.of (st _ _ hL7)), _, rfl, _, _, rfl, rfl, _, _, _, _, rfl, rfl, SqL.of (st _ _ hL7), at_of (by rw [ll]; omega) gs, _, _, rfl, rfl, ?_⟩
    refine ⟨_, rfl, p, l, n' + 1, 3, rfl, D7.same st, by omega, by omega, by omega, by omega, fun c H8 c0 c1 f8 D8 => ?_⟩
    refine ⟨_, _, rfl, rfl, (by show 3 ≤ sizeLine; decide), fun d nd => ?_⟩
    have ht8 := f8.tup (D7.same st) (show upd H7 t (.tup (T0.map V.int)) t = some (.tup (T0.map V.int)) from upd_same)
    have ok := tb.rising (p := (1 + rp).toNat) (c := c) (by omega) (by omega) c0
    have ep : (((1 + rp).toNat : Nat) : Int) = 1 + rp := by omega
    have sd := same_upd (o := .tup [.ref t, .int (1 + rp), .int (T0.getD (T0.length - 1) 0 - T0.getD (T0.length - (1 + rp).toNat) 0 + c)]) nd
    have t1 := tb.top (T0.length - 1) (by omega)
    have t2 := tb.nn (T0.length - (1 + rp).toNat) (by omega)
    have t3 := tb.slope rp.toNat (by omega)
    rw [show T0.length - (rp.toNat + 1) = T0.length - (1 + rp).toNat by omega] at t3
    refine k _ d T0 (1 + rp).toNat (T0.getD (T0.length - 1) 0 - T0.getD (T0.length - (1 + rp).toNat) 0 + c) (n' + 1 + 1) (f'.trans (f7.trans ((Same.fr st).trans (f8.trans (Same.fr sd))))) (D8.same sd) (by omega) (by omega) ⟨t, by rw [ep]; exact upd_same, sd _ _ ht8⟩ ok ⟨by omega, by omega, fun i hi => ?_⟩ (by omega) hlen
    have := tb.top i hi
    omega
end
end Sm

set_option Elab.async false
set_option linter.all false
set_option maxRecDepth 100000
set_option maxHeartbeats 16000000
namespace Sm
open PySem PySem.Spec PyProof.Rows L2
open C8 (pss_cut tCut)
def sp_cycle_of (K : PySem.W.Frag) : Sp := fun vs H Q _ => ∃ (a : Addr) (I : List Int), vs = [.ref a] ∧ H a = some (.lst (I.map V.int)) ∧ 0 < I.length ∧ I.length ≤ 30000 ∧ ∀ H' s, Same H H' → Cyc I s → Q (.int (s : Int)) H'
theorem ints_eqvAll : ∀ I J : List Int, PyData.eqvAll (I.map PyData.int) (J.map PyData.int) = decide (I = J)
  | [], [] => by simp [PyData.eqvAll]
  | [], j :: J => by simp [PyData.eqvAll]
  | i :: I, [] => by simp [PyData.eqvAll]
  | i :: I, j :: J => by
    have := ints_eqvAll I J
    simp only [List.map_cons, PyData.eqvAll, this]
    simp [PyData.eqv]
    rfl
theorem ints_eqv (I J : List Int) : PyData.eqv (.list (I.map PyData.int)) (.list (J.map PyData.int)) = decide (I = J) := by
  rw [← ints_eqvAll]
  simp [PyData.eqv]
theorem ints_shaped (I : List Int) : SeqAt.shaped (.list (I.map PyData.int)) = true := by
  have a : PyData.canLayAll0 (I.map PyData.int) = true := by
    induction I with
    | nil => rfl
    | cons i I ih => simp [PyData.canLayAll0, PyData.canLay0, ih]
  have b := depth_ints I
  have c : PyData.depth (.list (I.map PyData.int)) ≤ 64 := by
    simp only [PyData.depth]
    omega
  simp [SeqAt.shaped, PyData.canLay0, a, c]
section
variable {P : Program} {w : World} {K : PySem.W.Frag} {mg : Str → Option Value} {base : Heap}
abbrev s_cycle_of : Stmt := topS 16
abbrev N_cycle_of : List Str := ["items", "turn"]
theorem sc_cycle_of : FnScope N_cycle_of ["items"] (defScope s_cycle_of) := ⟨rfl, rfl, rfl, by decide +kernel, rfl, by decide +kernel, by decide +kernel⟩
theorem ok_cycle_of (T : Txt mg) (D : Df K mg "cycle_of" s_cycle_of ["items"]) : Cal P w K mg base "cycle_of" ["items"] 1 (sp_cycle_of K) := by
  refine D.cal sc_cycle_of (fun vs H Q E h => ?_) (fun f cdv A outer s H vs Q E hr h => ?_)
  · obtain ⟨a, I, rfl, _⟩ := h
    rfl
  obtain ⟨a, I, rfl, hS, i0, i1, k⟩ := h
  have ll := len_int I
  have lm : (I.map V.int).length = I.length := List.length_map ..
  refine ⟨_, (pss_cons (ps_for PassesOwn.never rfl (pi_range2 (by rfl) T.n_range (pa_cons pe_int (pa_cons (pe_callB call_len_seq (by rfl) T.n_len (by decide +kernel) (pa_cons (pv 0) pa_nil)) pa_nil))) (pg_name (i := 1) sc_cycle_of.nd rfl (Or.inl rfl))
      (pss_one (ps_if (PW.pt (pw_and (pt_cmpR op_eq (pe_op op_modN (pe_callB call_len_seq (by rfl) T.n_len (by decide +kernel) (pa_cons (pv 0) pa_nil)) (pv 1)) pe_int (nomark _)) (pw_and1 (pt_cmpR (op_eqD hr.units) (pv 0) (pe_op op_cat (pe_slice sl_list (pv 0) (po_some (pv 1)) po_none) (pe_slice sl_list (pv 0) po_none (po_some (pv 1)))) (nomark _))))) (pss_one (ps_ret (pv 1))) pss_nil)))
    (pss_one (ps_ret (pe_callB call_len_seq (by rfl) T.n_len (by decide +kernel) (pa_cons (pv 0) pa_nil))))), ?_⟩
  refine ⟨_, rfl, _, _, rfl, .inl (SqL.of hS), _, _, rfl, ⟨by omega, by omega, by rw [ll]; omega, by rw [ll]; omega⟩, ?_⟩
  refine for_range (lo := _) (n := _) (fun i σ H' => ∃ v, σ = [some (.ref a), v] ∧ Same H H' ∧ H' a = some (.lst (I.map V.int)) ∧ ∀ t, 0 < t → t ≤ i → t < I.length → t ∣ I.length → ¬ Rot I t)
    ⟨none, rfl, Same.refl _, hS, fun t h1 h2 => absurd h1 (by omega)⟩ ?_ ?_
  · rintro i σ H' hi ⟨v, rfl, s, hS, least⟩
    rw [ll] at hi
    have hi : 1 + i < I.length := by omega
    have more : (1 + i ∣ I.length → ¬ Rot I (1 + i)) → ∀ t, 0 < t → t ≤ i + 1 → t < I.length → t ∣ I.length → ¬ Rot I t := by
      intro h t h1 h2 h3 h4
      by_cases q : t = 1 + i
      · subst q
        exact h h4
      · exact least t h1 (by omega) h3 h4
    refine ⟨_, rfl, _, _, rfl, .inl (SqL.of hS), _, rfl, _, _, rfl, rfl, (by omega), rfl, _, rfl, ite3 (fun e => ?_) (fun e => ?_)⟩
    · rw [ll] at e
      have dv : 1 + i ∣ I.length := dvd_of (V.int.inj e)
      refine ⟨_, rfl, _, rfl, _, rfl, _, rfl, a, _, rfl, SqL.of hS, fun c nc => ?_⟩
      have e1 : cutV (I.map V.int) (some (1 + (i : Int))) none = (I.drop (1 + i)).map V.int := by
        rw [show (1 : Int) + (i : Int) = ((1 + i : Nat) : Int) by omega, cut_from, List.map_drop]
      have e2 : cutV (I.map V.int) none (some (1 + (i : Int))) = (I.take (1 + i)).map V.int := by
        rw [show (1 : Int) + (i : Int) = ((1 + i : Nat) : Int) by omega, cut_all, List.map_take]
      have s1 := same_upd (o := .lst (cutV (I.map V.int) (some (1 + (i : Int))) none)) nc
      refine ⟨_, rfl, _, rfl, _, rfl, a, _, rfl, SqL.of (s1 _ _ hS), fun d nd => ?_⟩
      have s2 := same_upd (o := .lst (cutV (I.map V.int) none (some (1 + (i : Int))))) nd
      refine ⟨_, _, _, _, rfl, rfl, s2 _ _ upd_same, upd_same, ?_, fun g ng => ?_⟩
      · rw [e1, e2, List.length_map, List.length_map, List.length_drop, List.length_take]
        exact Nat.le_trans (show I.length - (1 + i) + min (1 + i) I.length ≤ 30000 by omega) (by decide)
      rw [e1, e2] at *
      have s3 := same_upd (o := .lst ((I.drop (1 + i)).map V.int ++ (I.take (1 + i)).map V.int)) ng
      have sz := s1.trans (s2.trans s3)
      have hg : ∀ H9 : Hp, H9 = upd (upd (upd H' c (.lst ((I.drop (1 + i)).map V.int))) d (.lst ((I.take (1 + i)).map V.int))) g (.lst ((I.drop (1 + i)).map V.int ++ (I.take (1 + i)).map V.int)) → H9 g = some (.lst ((I.drop (1 + i) ++ I.take (1 + i)).map V.int)) := by
        rintro H9 rfl
        rw [upd_same, List.map_append]
      have hg := hg _ rfl
      generalize upd (upd (upd H' c (.lst ((I.drop (1 + i)).map V.int))) d (.lst ((I.take (1 + i)).map V.int))) g (.lst ((I.drop (1 + i)).map V.int ++ (I.take (1 + i)).map V.int)) = H9 at sz hg ⊢
      refine ⟨dataI I, dataI (I.drop (1 + i) ++ I.take (1 + i)), .lst (SqL.of (sz _ _ hS)) (dp_ints _), .lst (SqL.of hg) (dp_ints _), ints_shaped _, ints_shaped _, ?_⟩
      unfold dataI
      rw [ints_eqv]
      refine ⟨_, rfl, ite3 (fun r => ?_) (fun r => ?_)⟩
      · refine ⟨_, rfl, ?_⟩
        have z : (1 : Int) + (i : Int) = ((1 + i : Nat) : Int) := by omega
        rw [z]
        exact k H9 (1 + i) (s.trans sz) ⟨by omega, by omega, dv, fun _ => r, fun t h1 h2 h3 => least t h1 (by omega) (by omega) h3⟩
      · exact ⟨_, rfl, s.trans sz, sz _ _ hS, more fun _ => r⟩
    · exact iteF ⟨_, rfl, s, hS, more fun dv => absurd (congrArg V.int (by rw [ll]; exact of_dvd dv)) e⟩
  · rintro σ H' ⟨v, rfl, s, hS, least⟩
    rw [ll] at least
    refine ⟨_, rfl, _, _, rfl, .inl (SqL.of hS), ?_⟩
    rw [ll]
    exact k H' I.length s ⟨i0, Nat.le_refl _, Nat.dvd_refl _, fun h => absurd h (Nat.lt_irrefl _), fun t h1 h2 h3 => least t h1 (by omega) (by omega) h3⟩
end
end Sm

set_option Elab.async false
set_option linter.all false
set_option maxRecDepth 100000
set_option maxHeartbeats 16000000
namespace Sm
open PySem PySem.Spec PyProof.Rows L2
open C8 (pss_cut tCut)
theorem steps_split {T : List Int} {p : Nat} {r : Int} (o : RuleW T p r) : ((List.range (p - 1)).map fun i => T.getD (T.length - p + (i + 1)) 0 - T.getD (T.length - p + i) 0) ++ [T.getD (T.length - p + 0) 0 + r - T.getD (T.length - 1) 0] = stepsOf T p r := by
  have p0 := o.p0
  have p1 := o.p1
  obtain ⟨q, rfl⟩ : ∃ q, p = q + 1 := ⟨p - 1, by omega⟩
  unfold stepsOf
  rw [List.range_succ, List.map_append, Nat.add_sub_cancel]
  congr 1
  · refine List.map_congr_left fun i hi => ?_
    have hi := List.mem_range.mp hi
    rw [vl_lt (by omega), vl_lt (by omega), Nat.add_assoc]
  · show [_] = [vl T (q + 1) r (T.length - (q + 1) + q + 1) - vl T (q + 1) r (T.length - (q + 1) + q)]
    have e := vl_add p0 p1 (r := r) (x := T.length - (q + 1)) (Nat.le_refl _)
    rw [show T.length - (q + 1) + q + 1 = T.length - (q + 1) + (q + 1) by omega, e, vl_lt (by omega), vl_lt (by omega), show T.length - (q + 1) + q = T.length - 1 by omega]
    rfl
/-! ### a list or a tuple -/
def SA (H : Hp) (a : Addr) (xs : List V) : Prop := H a = some (.lst xs) ∨ H a = some (.tup xs)
theorem SA.same {H H' : Hp} {a : Addr} {xs : List V} (h : SA H a xs) (s : Same H H') : SA H' a xs := h.imp (s _ _) (s _ _)
theorem SA.sq {K : PySem.W.Frag} {H : Hp} {a : Addr} {xs : List V} (h : SA H a xs) : SqL K H a xs ∨ SqT K H a xs := h.imp SqL.of SqT.of
theorem ix_any {K : PySem.W.Frag} {H : Hp} {a : Addr} {xs : List V} {i : Int} {v : V} {Q : VK} (h : SA H a xs) (g : atI xs i = some v) (q : Q v H) : rIx K (.ref a) (.int i) H Q := by
  rcases h with h | h
  · exact .inl ⟨_, _, _, _, rfl, rfl, SqL.of h, g, q⟩
  · exact .inr (.inl ⟨_, _, _, _, rfl, rfl, SqT.of h, g, q⟩)
theorem sl_any {X : Cx} : SlR X (fun x lo hi H Q => rSlL X.K x lo hi H Q ∨ rSlA X.K x lo hi H Q) := fun pins s σ H x v vl vu lo hi sl Q I rv sw pl pu h => h.elim (sl_list pins s σ H x v vl vu lo hi sl Q I rv sw pl pu) (sl_tupA pins s σ H x v vl vu lo hi sl Q I rv sw pl pu)
theorem sl_anyU {K : PySem.W.Frag} {H : Hp} {a : Addr} {xs : List V} {lo hi : Option Int} {Q : VK} (h : SA H a xs) (q : ∀ u H', Same H H' → SA H' u (cutV xs lo hi) → Q (.ref u) H') : rSlL K (.ref a) lo hi H Q ∨ rSlA K (.ref a) lo hi H Q := by
  rcases h with h | h
  · exact .inl ⟨a, xs, rfl, SqL.of h, fun p np => q p _ (same_upd np) (.inl upd_same)⟩
  · exact .inr (sl_uni h fun u H' s' hu => q u H' s' (.inr hu))
theorem tup_anyU {K : PySem.W.Frag} {H : Hp} {a : Addr} {xs : List V} {Q : VK} (h : SA H a xs) (q : ∀ u H', Same H H' → H' u = some (.tup xs) → Q (.ref u) H') :
    ∃ p ys, [V.ref a] = [V.ref p] ∧ ((SqL K H p ys ∧ ∀ l, H l = none → Q (.ref l) (upd H l (.tup ys))) ∨ (SqT K H p ys ∧ Q (.ref p) H)) := by
  rcases h with h | h
  · exact ⟨a, xs, rfl, .inl ⟨SqL.of h, fun l nl => q l _ (same_upd nl) upd_same⟩⟩
  · exact ⟨a, xs, rfl, .inr ⟨SqT.of h, q a H (Same.refl _) h⟩⟩
def sp_shortest (K : PySem.W.Frag) : Sp := fun vs H Q _ => ∃ (a : Addr) (T : List Int) (p : Nat) (r : Int), vs = [.ref a, .int (p : Int), .int r] ∧ SA H a (T.map V.int) ∧ RuleOk T p r ∧ RB T p r ∧
  ∀ H' d' T' p' r', Same H H' → RuleAt H' d' T' p' r' → Cut T p r T' p' r' → Short T' p' r' → (∀ x, vl T' p' r' x = vl T p r x) → Q (.ref d') H'
section
variable {P : Program} {w : World} {K : PySem.W.Frag} {mg : Str → Option Value} {base : Heap}
abbrev s_shortest : Stmt := topS 15
abbrev N_shortest : List Str := ["table", "period", "rise", "tail", "steps", "turn", "gain", "count", "at"]
theorem sc_shortest : FnScope N_shortest ["table", "period", "rise"] (defScope s_shortest) := ⟨rfl, rfl, rfl, by decide +kernel, rfl, by decide +kernel, by decide +kernel⟩
theorem ok_shortest (T : Txt mg) (D : Df K mg "shortest" s_shortest ["table", "period", "rise"]) (C_cycle_of : Cal P w K mg base "cycle_of" ["items"] 1 (sp_cycle_of K)) : Cal P w K mg base "shortest" ["table", "period", "rise"] 2 (sp_shortest K) := by
  obtain ⟨f_cycle_of, fd_cycle_of, G_cycle_of, m_cycle_of, k_cycle_of, b_cycle_of⟩ := C_cycle_of
  refine D.cal sc_shortest (fun vs H Q E h => ?_) (fun f cdv A outer s H vs Q E hr h => ?_)
  · obtain ⟨a, T0, p, r, rfl, _⟩ := h
    rfl
  obtain ⟨a, T0, p, r, rfl, hS, o, b, k⟩ := h
  have p0 := o.p0
  have p1 := o.p1
  have bl := b.len
  have r0 := o.r0
  have ll := len_int T0
  have lm : (T0.map V.int).length = T0.length := List.length_map ..
  have lo : (((T0.map V.int).length : Nat) : Int) - (p : Int) = ((T0.length - p : Nat) : Int) := by rw [ll]; omega
  refine ⟨_, (pss_cons (ps_set (i := 3) sc_shortest.nd rfl (Or.inr rfl) (pe_slice sl_any (pv 0) (po_some (pe_op op_sub (pe_callB call_len_seq (by rfl) T.n_len (by decide +kernel) (pa_cons (pv 0) pa_nil)) (pv 1))) po_none))
    (pss_cons (ps_setLc (i := 4) (own := [("at", 8)]) (g := gName 8) (tt := tYes) rfl sc_shortest.nd rfl rfl (sw_true rfl rfl rfl (by decide +kernel)) (pi_range1 (by rfl) T.n_range (pa_cons (pe_op op_sub (pv 1) pe_int) pa_nil)) (blkOk_by (own := [("at", 8)]) (N := N_shortest) (sc := defScope s_shortest) (by decide +kernel)) (fun _ _ _ _ _ => pg_name (i := 8) sc_shortest.nd rfl (Or.inl rfl)) (fun _ _ _ _ _ => pts_nil) (fun _ _ _ _ _ => (pe_op op_sub (pe_ix (show IxR _ (rIx K) from ix_seq) (pv 3) (pe_op op_add (pv 8) pe_int) (fun _ _ => rfl)) (pe_ix (show IxR _ (rIx K) from ix_seq) (pv 3) (pv 8) (fun _ _ => rfl)))))
    (pss_cons (ps_set (i := 5) sc_shortest.nd rfl (Or.inl rfl) (pe_call G_cycle_of (hr.mono (by decide)) (by rfl) m_cycle_of k_cycle_of b_cycle_of .nil pass0 (pa_cons (pe_op op_cat (pv 4) (pe_lst (pa_cons (pe_op op_sub (pe_op op_add (pe_ix ix_seq (pv 3) pe_int (fun _ _ => rfl)) (pv 2)) (pe_ix ix_seq (pv 3) (pe_un un_neg pe_int) (fun _ _ => rfl))) pa_nil))) pa_nil)))
    (pss_cons (ps_set (i := 6) sc_shortest.nd rfl (Or.inl rfl) (pe_op op_fdivW (pe_op op_mul (pv 2) (pv 5)) (pv 1)))
    (pss_cons (ps_set (i := 7) sc_shortest.nd rfl (Or.inl rfl) (pe_callB call_len_seq (by rfl) T.n_len (by decide +kernel) (pa_cons (pv 0) pa_nil)))
    (pss_cons (ps_while PassesOwn.never (PW.pt (pw_and (pt_cmpR op_gt (pv 7) (pv 5) (nomark _)) (pw_and1 (pt_cmpR op_eq (pe_ix ix_seq (pv 0) (pe_op op_sub (pv 7) pe_int) (fun _ _ => rfl)) (pe_op op_add (pe_ix ix_seq (pv 0) (pe_op op_sub (pe_op op_sub (pv 7) pe_int) (pv 5)) (fun _ _ => rfl)) (pv 6)) (nomark _)))))
      (pss_one (ps_aug (i := 7) sc_shortest.nd rfl (Or.inl rfl) pe_int ip_sub)))
    (pss_one (ps_ret (pe_tup (pa_cons (pe_callTy call_tuple_of (by rfl) T.n_tuple (by decide +kernel) (pa_cons (pe_slice sl_any (pv 0) po_none (po_some (pv 7))) pa_nil)) (pa_cons (pv 5) (pa_cons (pv 6) pa_nil)))))))))))), ?_⟩
  refine ⟨_, rfl, _, rfl, _, _, rfl, hS.sq, _, rfl, _, _, rfl, rfl, _, rfl, ?_⟩
  rw [lo]
  refine sl_anyU hS fun c H1 s1 hc => ?_
  rw [cut_from, ← List.map_drop] at hc
  have tl : (T0.drop (T0.length - p)).length = p := by rw [List.length_drop]; omega
  have tg : ∀ i, i < p → ((T0.drop (T0.length - p)).map V.int)[i]? = some (.int (T0.getD (T0.length - p + i) 0)) := by
    intro i hi
    rw [List.getElem?_map, List.getElem?_drop, List.getElem?_eq_getElem (by omega), List.getD_eq_getElem?_getD, List.getElem?_eq_getElem (by omega)]
    rfl
  have cnt : ((p : Int) - 1).toNat = p - 1 := by omega
  refine ⟨_, rfl, _, _, rfl, rfl, _, rfl, (by omega), (by omega), fun D nD => ?_⟩
  rw [cnt]
  have sD := same_upd (o := .lst []) nD
  refine lc_range (lo := 0) (n := p - 1) (fun j H' => Same H1 H' ∧ H' D = some (.lst (((List.range j).map fun i => T0.getD (T0.length - p + (i + 1)) 0 - T0.getD (T0.length - p + i) 0).map V.int))) ⟨sD, upd_same⟩ ?_ ?_
  · rintro j H' hj ⟨s', hD⟩
    refine ⟨rfl, ?_⟩
    unfold tYes
    refine iteT ?_
    have e1 : (0 : Int) + (j : Int) + 1 = ((j + 1 : Nat) : Int) := by omega
    have e0 : (0 : Int) + (j : Int) = (j : Int) := Int.zero_add _
    refine ⟨_, rfl, _, rfl, _, _, rfl, rfl, ix_any (hc.same s') (at_of e1 (tg (j + 1) (by omega))) ⟨_, rfl, _, rfl, ix_any (hc.same s') (at_of e0 (tg j (by omega))) ⟨_, _, rfl, rfl, _, hD, ?_, fun b o e => ?_, ?_⟩⟩⟩
    · rw [List.length_map, List.length_map, List.length_range]
      exact Nat.lt_of_le_of_lt (show j ≤ 30000 by omega) (by decide)
    · rw [upd_ne (ne_of_none e nD)]
      exact s' _ _ e
    · rw [upd_same, List.range_succ, List.map_append, List.map_append]
      rfl
  rintro H2 ⟨s2, hD⟩
  have hc2 := hc.same s2
  have g0 := tg 0 p0
  have gl := tg (p - 1) (by omega)
  rw [show T0.length - p + (p - 1) = T0.length - 1 by omega] at gl
  refine ⟨_, rfl, _, rfl, ix_any hc2 (atI_nat (j := 0) g0) ⟨_, rfl, _, _, rfl, rfl, _, rfl, _, rfl, ix_any hc2 (atI_neg1 (by rw [List.length_map, tl]; exact p0) (by rw [List.length_map, tl]; exact gl)) ⟨_, _, rfl, rfl, (by show 1 ≤ sizeLine; decide), fun e ne => ?_⟩⟩⟩
  have se := same_upd (o := .lst [.int (T0.getD (T0.length - p + 0) 0 + r - T0.getD (T0.length - 1) 0)]) ne
  refine ⟨_, _, _, _, rfl, rfl, se _ _ hD, upd_same, ?_, fun g ng => ?_⟩
  · rw [List.length_map, List.length_map, List.length_range]
    exact Nat.le_trans (show p - 1 + 1 ≤ 30000 by omega) (by decide)
  have sg := same_upd (o := .lst ((((List.range (p - 1)).map fun i => T0.getD (T0.length - p + (i + 1)) 0 - T0.getD (T0.length - p + i) 0).map V.int) ++ [.int (T0.getD (T0.length - p + 0) 0 + r - T0.getD (T0.length - 1) 0)])) ng
  have hg : ∀ H9 : Hp, H9 g = some (.lst ((((List.range (p - 1)).map fun i => T0.getD (T0.length - p + (i + 1)) 0 - T0.getD (T0.length - p + i) 0).map V.int) ++ [.int (T0.getD (T0.length - p + 0) 0 + r - T0.getD (T0.length - 1) 0)])) → H9 g = some (.lst ((stepsOf T0 p r).map V.int)) := by
    intro H9 h
    rw [h, ← steps_split o.w, List.map_append]
    rfl
  have s3 := s1.trans (s2.trans (se.trans sg))
  refine ⟨g, stepsOf T0 p r, rfl, hg _ upd_same, by rw [stepsOf_len]; exact p0, by rw [stepsOf_len]; omega, fun H3 s s4 cyc => ?_⟩
  obtain ⟨s0, sp, sd, hs, hm⟩ := cyc_rule o cyc
  have sz := s3.trans s4
  have hS3 := hS.same sz
  refine ⟨_, rfl, _, rfl, _, _, rfl, rfl, b.mulR' o, _, rfl, _, _, rfl, rfl, b.div o, _, rfl, _, _, rfl, hS3.sq, ?_⟩
  have c0 : 0 ≤ r * (s : Int) / (p : Int) := Int.ediv_nonneg (Int.mul_nonneg r0 (by omega)) (by omega)
  have c1 : r * (s : Int) / (p : Int) ≤ r := by
    have h1 : r * (s : Int) ≤ r * (p : Int) := Int.mul_le_mul_of_nonneg_left (by omega) r0
    have h2 := Int.ediv_le_ediv (show (0 : Int) < (p : Int) by omega) h1
    rw [Int.mul_ediv_cancel _ (by omega)] at h2
    exact h2
  have all := rep_all o hs
  obtain ⟨cc, ec⟩ : ∃ cc, cc = r * (s : Int) / (p : Int) := ⟨_, rfl⟩
  rw [← ec] at c0 c1 all
  refine ⟨fun m σ H' => σ = [some (.ref a), some (.int (p : Int)), some (.int r), some (.ref c), some (.ref D), some (.int (s : Int)), some (.int cc), some (.int ((m + s : Nat) : Int)), none] ∧ H' = H3 ∧ m + s ≤ T0.length ∧ ∀ y, m ≤ y → vl T0 p r (y + s) = vl T0 p r y + cc, ⟨T0.length - s, ?_, rfl, by omega, fun y hy => all y (by omega)⟩, ?_⟩
  · rw [ec, show T0.length - s + s = T0.length by omega, ← ll]
    rfl
  rintro m σ H' ⟨rfl, rfl, al, ha⟩
  have fin : (m = 0 ∨ vl T0 p r (m - 1 + s) ≠ T0.getD (m - 1) 0 + cc) → ∀ (H5 : Hp) (t' : Addr), Same H' H5 → H5 t' = some (.tup ((T0.take (m + s)).map V.int)) → ∀ q, H5 q = none → Q (.ref q) (upd H5 q (.tup [.ref t', .int (s : Int), .int cc])) := by
    intro st H5 t' sm h5 q nq
    have sq := same_upd (o := .tup [.ref t', .int (s : Int), .int cc]) nq
    have am : m ≤ T0.length - p := by
      rcases Nat.lt_or_ge (T0.length - p) m with w | w
      · exfalso
        rcases st with z | z
        · omega
        · apply z
          rw [all (m - 1) (by omega), vl_lt (by omega)]
      · exact w
    refine k _ q (T0.take (m + s)) s cc (sz.trans (sm.trans sq)) ⟨t', upd_same, sq _ _ h5⟩ ⟨?_, sp, c1, fun i hi => ?_⟩ (cut_short o s0 sd am c0 ha hm st) (cut_vl s0 (by omega) ha)
    · rw [List.length_take]
      omega
    · rw [List.length_take] at hi
      exact getD_take (by omega)
  have cx : cutV (T0.map V.int) none (some ((m + s : Nat) : Int)) = (T0.take (m + s)).map V.int := by rw [cut_all, List.map_take]
  refine ⟨_, rfl, _, rfl, _, _, rfl, rfl, _, rfl, ?_⟩
  by_cases e : ((m + s : Nat) : Int) > (s : Int)
  · have e1 : ((m + s : Nat) : Int) - 1 = ((m + s - 1 : Nat) : Int) := by omega
    have e2 : ((m + s : Nat) : Int) - 1 - (s : Int) = ((m - 1 : Nat) : Int) := by omega
    refine iteP e ⟨_, rfl, _, rfl, _, _, rfl, rfl, ix_any hS3 (at_of e1 (get_int (by omega))) ⟨_, rfl, _, rfl, _, _, rfl, rfl, _, rfl, _, _, rfl, rfl, ix_any hS3 (at_of e2 (get_int (by omega))) ⟨_, rfl, _, _, rfl, rfl, rfl, _, rfl, ?_⟩⟩⟩
    have e4 : vl T0 p r (m - 1 + s) = T0.getD (m + s - 1) 0 := by rw [show m - 1 + s = m + s - 1 by omega, vl_lt (by omega)]
    by_cases e3 : T0.getD (m + s - 1) 0 = T0.getD (m - 1) 0 + cc
    · refine iteP (congrArg V.int e3) ⟨fun σ H'' => σ = [some (.ref a), some (.int (p : Int)), some (.int r), some (.ref c), some (.ref D), some (.int (s : Int)), some (.int cc), some (.int ((m - 1 + s : Nat) : Int)), none] ∧ H'' = H' ∧ m - 1 + s ≤ T0.length ∧ ∀ y, m - 1 ≤ y → vl T0 p r (y + s) = vl T0 p r y + cc, fun σ' H3 hw => ⟨m - 1, by omega, hw⟩, ?_⟩
      have e5 : ((m + s : Nat) : Int) - 1 = ((m - 1 + s : Nat) : Int) := by omega
      refine ⟨_, rfl, _, _, rfl, rfl, ⟨by rw [← e5]; rfl, rfl, by omega, fun y hy => ?_⟩⟩
      by_cases q : y = m - 1
      · rw [q, e4, e3, vl_lt (by omega)]
      · exact ha y (by omega)
    · refine iteN (fun q => e3 (V.int.inj q)) ?_
      refine ⟨_, rfl, _, rfl, _, rfl, sl_anyU hS3 fun g H5 s5 hg => ?_⟩
      rw [cx] at hg
      rcases hg with hg | hg
      · refine ⟨_, _, rfl, .inl ⟨SqL.of hg, fun t' nt => ⟨_, rfl, _, rfl, (by show 3 ≤ sizeLine; decide), fun q nq => ?_⟩⟩⟩
        exact fin (.inr (by rw [e4]; exact e3)) _ t' (s5.trans (same_upd nt)) upd_same q nq
      · refine ⟨_, _, rfl, .inr ⟨SqT.of hg, _, rfl, _, rfl, (by show 3 ≤ sizeLine; decide), fun q nq => ?_⟩⟩
        exact fin (.inr (by rw [e4]; exact e3)) _ g s5 hg q nq
  · refine iteN e (iteF ?_)
    refine ⟨_, rfl, _, rfl, _, rfl, sl_anyU hS3 fun g H5 s5 hg => ?_⟩
    rw [cx] at hg
    rcases hg with hg | hg
    · refine ⟨_, _, rfl, .inl ⟨SqL.of hg, fun t' nt => ⟨_, rfl, _, rfl, (by show 3 ≤ sizeLine; decide), fun q nq => ?_⟩⟩⟩
      exact fin (.inl (by omega)) _ t' (s5.trans (same_upd nt)) upd_same q nq
    · refine ⟨_, _, rfl, .inr ⟨SqT.of hg, _, rfl, _, rfl, (by show 3 ≤ sizeLine; decide), fun q nq => ?_⟩⟩
      exact fin (.inl (by omega)) _ g s5 hg q nq
end
end Sm

set_option Elab.async false
set_option linter.all false
set_option maxRecDepth 100000
set_option maxHeartbeats 16000000
namespace Sm
open PySem PySem.Spec PyProof.Rows L2
open C8 (pss_cut tCut)
def sp_val (_ : PySem.W.Frag) : Sp := fun vs H Q _ => ∃ (d : Addr) (T : List Int) (p : Nat) (r : Int) (x : Nat), vs = [.ref d, .int (x : Int)] ∧ RuleAt H d T p r ∧ RuleOk T p r ∧ RB T p r ∧ Q (.int (vl T p r x)) H
abbrev sp_value_of := sp_val
def isW : PyData → Bool
  | .int _ => true
  | _ => false
theorem of_int (d : PyData) : isOf "int" d = (match d with | .int _ => true | .bool _ => true | _ => false) := by
  cases d <;> simp [isOf, isT, tyN]
theorem of_bool (d : PyData) : isOf "bool" d = (match d with | .bool _ => true | _ => false) := by
  cases d <;> simp [isOf, isT, tyN]
def amB : PyData → Bool
  | .int i => decide (0 ≤ i)
  | _ => false
theorem of_tup (d : PyData) : isOf "tuple" d = (match d with | .tuple _ => true | _ => false) := by
  cases d <;> simp [isOf, isT, tyN]
def sp_is_amount (K : PySem.W.Frag) : Sp := fun vs H Q _ => ∃ (v : V) (d : PyData), vs = [v] ∧ Dq K H v d ∧ Q (.bl (amB d)) H
def sp_is_whole (K : PySem.W.Frag) : Sp := fun vs H Q _ => ∃ (v : V) (d : PyData), vs = [v] ∧ Dq K H v d ∧ Q (.bl (isW d)) H
/-- data that is soon shown -/
structure Sml (k n : Nat) (d : PyData) : Prop where
  sh : PyData.showable d = true
  dep : d.depth ≤ k
  len : d.shown.length ≤ n
def t16 : PyData → Bool
  | .tuple ds => decide (ds.length ≤ 1)
  | _ => true
def w16 : PyData → Bool
  | .tuple [_, d] => t16 d
  | _ => true
/-- a value that stands on what is new since H -/
def DqN (K : PySem.W.Frag) (H H' : Hp) (x : V) (d : PyData) : Prop := ∀ H'' : Hp, (∀ b o, H b = none → H' b = some o → H'' b = some o) → Dq K H'' x d
theorem same_upd2 {H : Hp} {p : Addr} {o o' : HO} (h : H p = none) : Same H (upd (upd H p o) p o') := fun b x e => by
  rw [upd_ne (ne_of_none e h), upd_ne (ne_of_none e h)]
  exact e
def sp_l_odd (K : PySem.W.Frag) : Sp := fun vs H Q _ => ∃ (p l : Addr) (n : Int), vs = [.ref p] ∧ Deck H p l n ∧ 0 ≤ n ∧ n ≤ 900000 ∧
  ∀ H' x d, Fr p l H H' → Deck H' p l (n + 1) → DqN K H H' x d → Sml 3 300 d → t16 d = true → Q x H'
section
variable {P : Program} {w : World} {K : PySem.W.Frag} {mg : Str → Option Value} {base : Heap}
abbrev s_value_of : Stmt := topS 19
abbrev N_value_of : List Str := ["rule", "x", "table", "period", "rise", "turns"]
theorem sc_value_of : FnScope N_value_of ["rule", "x"] (defScope s_value_of) := ⟨rfl, rfl, rfl, by decide +kernel, rfl, by decide +kernel, by decide +kernel⟩
theorem ok_value_of (T : Txt mg) (D : Df K mg "value_of" s_value_of ["rule", "x"]) : Cal P w K mg base "value_of" ["rule", "x"] 1 (sp_value_of K) := by
  refine D.cal sc_value_of (fun vs H Q E h => ?_) (fun f cdv A outer s H vs Q E hr h => ?_)
  · obtain ⟨d, T0, p, r, x, rfl, _⟩ := h
    rfl
  obtain ⟨d, T0, p, r, x, rfl, ⟨t, hd, ht⟩, o, b, k⟩ := h
  have p0 := o.p0
  have p1 := o.p1
  refine ⟨_, (pss_cons (ps_asg (pv 0) (pg_tup (by rfl) (pgs_cons (pg_name (i := 2) sc_value_of.nd rfl (Or.inl rfl)) (pgs_cons (pg_name (i := 3) sc_value_of.nd rfl (Or.inl rfl)) (pgs_cons (pg_name (i := 4) sc_value_of.nd rfl (Or.inl rfl)) pgs_nil)))))
    (pss_cons (ps_if (pt_cmpR op_lt (pv 1) (pe_callB call_len_seq (by rfl) T.n_len (by decide +kernel) (pa_cons (pv 2) pa_nil)) (nomark _)) (pss_one (ps_ret (pe_ix ix_tup (pv 2) (pv 1) (fun _ _ => rfl)))) pss_nil)
    (pss_cons (ps_set (i := 5) sc_value_of.nd rfl (Or.inl rfl) (pe_op op_add (pe_op op_fdivW (pe_op op_sub (pv 1) (pe_callB call_len_seq (by rfl) T.n_len (by decide +kernel) (pa_cons (pv 2) pa_nil))) (pv 3)) pe_int))
    (pss_one (ps_ret (pe_op op_add (pe_ix ix_tup (pv 2) (pe_op op_sub (pv 1) (pe_op op_mul (pv 5) (pv 3))) (fun _ _ => rfl)) (pe_op op_mul (pv 5) (pv 4)))))))), ?_⟩
  refine ⟨_, rfl, _, _, rfl, SqT.of hd, rfl, _, _, rfl, _, _, rfl, _, _, rfl, rfl, ?_⟩
  refine ⟨_, rfl, _, rfl, _, _, rfl, .inr (SqT.of ht), _, _, rfl, rfl, _, rfl, ite3 (fun e => ?_) (fun e => ?_)⟩
  · rw [len_int] at e
    have e : x < T0.length := by omega
    rw [vl_lt e] at k
    exact ⟨_, rfl, _, rfl, _, _, _, _, rfl, rfl, SqT.of ht, atI_nat (get_int e), k⟩
  · rw [len_int] at e
    have e : T0.length ≤ x := by omega
    have z : ∀ B : Int → Prop, B (((x - T0.length) / p + 1 : Nat) : Int) → B (((x : Int) - (((T0.map V.int).length : Nat) : Int)) / (p : Int) + 1) := fun B h => by rw [turns_eq e]; exact h
    refine ⟨_, rfl, _, rfl, _, _, rfl, .inr (SqT.of ht), _, _, rfl, rfl, _, rfl, _, _, rfl, rfl, b.div o, _, _, rfl, rfl, ?_⟩
    refine z (fun y => gName 5 (.int y) _ _ _) ?_
    clear z
    obtain ⟨a1, a2, a3⟩ := place p0 p1 e
    have kv : vl T0 p r x = T0.getD (x - ((x - T0.length) / p + 1) * p) 0 + (((x - T0.length) / p + 1 : Nat) : Int) * r := if_neg (by omega)
    rw [kv] at k
    generalize (x - T0.length) / p + 1 = q at a1 a2 a3 k ⊢
    exact ⟨_, rfl, _, rfl, _, rfl, _, rfl, _, _, rfl, rfl, b.mulP o, _, _, rfl, rfl, _, _, _, _, rfl, rfl, SqT.of ht, at_of (index_eq a1) (get_int a3), _, rfl, _, rfl, _, _, rfl, rfl, b.mulR o, _, _, rfl, rfl, k⟩
abbrev s_l_one : Stmt := topS 43
abbrev N_l_one : List Str := ["_law_deck_here", "_law_items"]
theorem sc_l_one : FnScope N_l_one ["_law_deck_here", "_law_items"] (defScope s_l_one) := ⟨rfl, rfl, rfl, by decide +kernel, rfl, by decide +kernel, by decide +kernel⟩
theorem ok_l_one (T : Txt mg) (D : Df K mg "_law_one" s_l_one ["_law_deck_here", "_law_items"]) (C_l_draw : Cal P w K mg base "_law_draw" ["_law_deck_here", "_law_many"] 1 (sp_l_draw K)) : Cal P w K mg base "_law_one" ["_law_deck_here", "_law_items"] 2 (sp_l_one K) := by
  obtain ⟨f_l_draw, fd_l_draw, G_l_draw, m_l_draw, k_l_draw, b_l_draw⟩ := C_l_draw
  refine D.cal sc_l_one (fun vs H Q E h => ?_) (fun f cdv A outer s H vs Q E hr h => ?_)
  · obtain ⟨p, l, b, n, xs, rfl, _⟩ := h
    rfl
  obtain ⟨p, l, b, n, xs, rfl, D, n0, n1, hb, bp, bl, x0, x1, k⟩ := h
  refine ⟨_, (pss_one (ps_ret (pe_ix ix_list (pv 1) (pe_call G_l_draw (hr.mono (by decide)) (by rfl) m_l_draw k_l_draw b_l_draw .nil pass0 (pa_cons (pv 0) (pa_cons (pe_callB call_len_seq (by rfl) T.n_len (by decide +kernel) (pa_cons (pv 1) pa_nil)) pa_nil))) (fun _ _ => rfl)))), ?_⟩
  refine ⟨_, rfl, _, rfl, _, rfl, _, _, rfl, .inl (SqL.of hb), p, l, n, _, rfl, D, n0, n1, (by omega), (by omega), fun r H' r0 r1 f D' => ?_⟩
  have q : r.toNat < xs.length := by omega
  refine ⟨_, _, _, _, rfl, rfl, SqL.of (f b _ bp bl hb), at_of (j := r.toNat) (by omega) (List.getElem?_eq_getElem q), ?_⟩
  exact k _ H' (List.getElem_mem q) f D'
abbrev s_is_whole : Stmt := topS 4
abbrev N_is_whole : List Str := ["value"]
theorem sc_is_whole : FnScope N_is_whole ["value"] (defScope s_is_whole) := ⟨rfl, rfl, rfl, by decide +kernel, rfl, by decide +kernel, by decide +kernel⟩
theorem ok_is_whole (T : Txt mg) (D : Df K mg "is_whole" s_is_whole ["value"]) : Cal P w K mg base "is_whole" ["value"] 1 (sp_is_whole K) := by
  refine D.cal sc_is_whole (fun vs H Q E h => ?_) (fun f cdv A outer s H vs Q E hr h => ?_)
  · obtain ⟨v, d, rfl, _⟩ := h
    rfl
  obtain ⟨v, d, rfl, hd, k⟩ := h
  refine ⟨_, (pss_one (ps_ret (pe_and (pe_callB call_isQ (by rfl) T.n_isinstance (by decide +kernel) (pa_cons (pv 0) (pa_cons (pe_bltn (v := .ty "int") (by rfl) T.n_int (by decide +kernel) rfl) pa_nil))) (pe_one (pe_not (pe_callB call_isQ (by rfl) T.n_isinstance (by decide +kernel) (pa_cons (pv 0) (pa_cons (pe_bltn (v := .ty "bool") (by rfl) T.n_bool (by decide +kernel) rfl) pa_nil)))))))), ?_⟩
  refine ⟨_, rfl, v, d, "int", rfl, hd, .inl rfl, _, rfl, ?_⟩
  rw [of_int]
  cases hd with
  | non => exact iteF k
  | bl b => exact iteT ⟨_, rfl, _, .bool b, "bool", rfl, .bl b, .inr (.inl rfl), _, rfl, by rw [of_bool]; exact k⟩
  | int i => exact iteT ⟨_, rfl, _, .int i, "bool", rfl, .int i, .inr (.inl rfl), _, rfl, by rw [of_bool]; exact k⟩
  | str x => exact iteF k
  | lst e1 e2 e3 => exact iteF k
  | tup e1 e2 => exact iteF k
  | dic kvs e1 => exact iteF k
abbrev s_is_amount : Stmt := topS 5
abbrev N_is_amount : List Str := ["value"]
theorem sc_is_amount : FnScope N_is_amount ["value"] (defScope s_is_amount) := ⟨rfl, rfl, rfl, by decide +kernel, rfl, by decide +kernel, by decide +kernel⟩
theorem ok_is_amount (T : Txt mg) (D : Df K mg "is_amount" s_is_amount ["value"]) (C_is_whole : Cal P w K mg base "is_whole" ["value"] 1 (sp_is_whole K)) : Cal P w K mg base "is_amount" ["value"] 2 (sp_is_amount K) := by
  obtain ⟨f_is_whole, fd_is_whole, G_is_whole, m_is_whole, k_is_whole, b_is_whole⟩ := C_is_whole
  refine D.cal sc_is_amount (fun vs H Q E h => ?_) (fun f cdv A outer s H vs Q E hr h => ?_)
  · obtain ⟨v, d, rfl, _⟩ := h
    rfl
  obtain ⟨v, d, rfl, hd, k⟩ := h
  refine ⟨_, (pss_one (ps_ret (pe_and (pe_call G_is_whole (hr.mono (by decide)) (by rfl) m_is_whole k_is_whole b_is_whole .nil pass0 (pa_cons (pv 0) pa_nil)) (pe_one (pe_cmpR op_ge (pv 0) pe_int (nomark _)))))), ?_⟩
  refine ⟨_, rfl, v, d, rfl, hd, _, rfl, ?_⟩
  cases hd with
  | int i => exact iteT ⟨_, rfl, _, _, rfl, rfl, k⟩
  | non => exact iteF k
  | bl b => exact iteF k
  | str x => exact iteF k
  | lst e1 e2 e3 => exact iteF k
  | tup e1 e2 => exact iteF k
  | dic kvs e1 => exact iteF k
abbrev s_l_odd : Stmt := topS 48
abbrev N_l_odd : List Str := ["_law_deck_here", "_law_some"]
theorem sc_l_odd : FnScope N_l_odd ["_law_deck_here"] (defScope s_l_odd) := ⟨rfl, rfl, rfl, by decide +kernel, rfl, by decide +kernel, by decide +kernel⟩
theorem ok_l_odd (T : Txt mg) (D : Df K mg "_law_odd" s_l_odd ["_law_deck_here"]) (C_l_one : Cal P w K mg base "_law_one" ["_law_deck_here", "_law_items"] 2 (sp_l_one K)) : Cal P w K mg base "_law_odd" ["_law_deck_here"] 3 (sp_l_odd K) := by
  obtain ⟨f_l_one, fd_l_one, G_l_one, m_l_one, k_l_one, b_l_one⟩ := C_l_one
  refine D.cal sc_l_odd (fun vs H Q E h => ?_) (fun f cdv A outer s H vs Q E hr h => ?_)
  · obtain ⟨p, l, n, rfl, _⟩ := h
    rfl
  obtain ⟨p, l, n, rfl, D, n0, n1, k⟩ := h
  refine ⟨_, (pss_cons (ps_set (i := 1) sc_l_odd.nd rfl (Or.inl rfl) (pe_lstN (pa_cons pe_non (pa_cons pe_bl (pa_cons pe_bl (pa_cons (pe_un un_neg pe_int) (pa_cons pe_int (pa_cons pe_str (pa_cons pe_str (pa_cons (pe_tup pa_nil) (pa_cons (pe_lstN pa_nil) (pa_cons (pe_tup (pa_cons pe_int pa_nil)) pa_nil))))))))))))
    (pss_one (ps_ret (pe_call G_l_one (hr.mono (by decide)) (by rfl) m_l_one k_l_one b_l_one .nil pass0 (pa_cons (pv 0) (pa_cons (pe_op op_cat (pv 1) (pe_lstN (pa_cons (pe_lstN (pa_cons pe_int (pa_cons pe_int pa_nil))) (pa_cons pe_dnewK (pa_cons (pe_tup (pa_cons pe_str pa_nil)) (pa_cons (pe_tup (pa_cons (pe_tup (pa_cons pe_int (pa_cons pe_int pa_nil))) pa_nil)) (pa_cons (pe_op op_pow pe_int pe_int) pa_nil))))))) pa_nil)))))), ?_⟩
  refine ⟨_, rfl, (by show 0 ≤ sizeLine; decide), fun o1 no1 => ⟨(by show 0 ≤ sizeLine; decide), fun o2 no2 eo2 => ⟨(by show 1 ≤ sizeLine; decide), fun o3 no3 => ⟨(by show 10 ≤ sizeLine; decide), fun L0 nL0 eL0 => ?_⟩⟩⟩⟩
  refine ⟨_, rfl, _, rfl, (by show 2 ≤ sizeLine; decide), fun o5 no5 eo5 => fun o6 no6 => ⟨(by show 1 ≤ sizeLine; decide), fun o7 no7 => ⟨(by show 2 ≤ sizeLine; decide), fun o8 no8 => ⟨(by show 1 ≤ sizeLine; decide), fun o9 no9 => ⟨_, _, rfl, rfl, ⟨by decide, by decide, by decide⟩, (by show 5 ≤ sizeLine; decide), fun L1 nL1 eL1 => ?_⟩⟩⟩⟩⟩
  have wo1 := same_upd (o := .tup []) no1
  have wo2 := same_upd (o := .lst []) no2
  have wo3 := same_upd (o := .tup [.int 0]) no3
  have wL0 := same_upd (o := .lst [.non, .bl true, .bl false, .int (-1), .int 60, .str "0", .str "loop", .ref o1, .ref o2, .ref o3]) nL0
  have wo5 := same_upd (o := .lst [.int 0, .int 1]) no5
  have wo6 := same_upd (o := .dK []) no6
  have wo7 := same_upd (o := .tup [.str "loop"]) no7
  have wo8 := same_upd (o := .tup [.int 0, .int 1]) no8
  have wo9 := same_upd (o := .tup [.ref o8]) no9
  have wL1 := same_upd (o := .lst [.ref o5, .ref o6, .ref o7, .ref o9, .int (10 ^ Int.toNat 40)]) nL1
  have y9 := wL1
  have y8 := wo9.trans y9
  have y7 := wo8.trans y8
  have y6 := wo7.trans y7
  have y5 := wo6.trans y6
  have y4 := wo5.trans y5
  have y3 := wL0.trans y4
  have y2 := wo3.trans y3
  have y1 := wo2.trans y2
  have y0 := wo1.trans y1
  refine ⟨L0, L1, _, _, rfl, rfl, y4 _ _ upd_same, upd_same, (by show 10 + 5 ≤ sizeLine; decide), fun C nC => ?_⟩
  have wC := same_upd (o := .lst ([.non, .bl true, .bl false, .int (-1), .int 60, .str "0", .str "loop", .ref o1, .ref o2, .ref o3] ++ [.ref o5, .ref o6, .ref o7, .ref o9, .int (10 ^ Int.toNat 40)])) nC
  have yy := y0.trans wC
  have lne := (D.same y0).lne nC
  have D1 := D.same yy
  refine ⟨p, l, C, n, _, rfl, D1, n0, by omega, upd_same, lne.1, lne.2, (by show 0 < 10 + 5; decide), (by show 10 + 5 ≤ 1000; decide), fun x H' hx f D' => ?_⟩
  have co1 := (y1.trans wC) o1 (.tup []) upd_same
  have mo1 : H o1 = none := no1
  have do1 := f _ _ (D.lne mo1).1 (D.lne mo1).2 co1
  have co2 := (y2.trans wC) o2 (.lst []) upd_same
  have mo2 : H o2 = none := Same.free wo1 no2
  have do2 := f _ _ (D.lne mo2).1 (D.lne mo2).2 co2
  have co3 := (y3.trans wC) o3 (.tup [.int 0]) upd_same
  have mo3 : H o3 = none := Same.free (wo1.trans wo2) no3
  have do3 := f _ _ (D.lne mo3).1 (D.lne mo3).2 co3
  have co5 := (y5.trans wC) o5 (.lst [.int 0, .int 1]) upd_same
  have mo5 : H o5 = none := Same.free (wo1.trans (wo2.trans (wo3.trans wL0))) no5
  have do5 := f _ _ (D.lne mo5).1 (D.lne mo5).2 co5
  have co6 := (y6.trans wC) o6 (.dK []) upd_same
  have mo6 : H o6 = none := Same.free (wo1.trans (wo2.trans (wo3.trans (wL0.trans wo5)))) no6
  have do6 := f _ _ (D.lne mo6).1 (D.lne mo6).2 co6
  have co7 := (y7.trans wC) o7 (.tup [.str "loop"]) upd_same
  have mo7 : H o7 = none := Same.free (wo1.trans (wo2.trans (wo3.trans (wL0.trans (wo5.trans wo6))))) no7
  have do7 := f _ _ (D.lne mo7).1 (D.lne mo7).2 co7
  have co8 := (y8.trans wC) o8 (.tup [.int 0, .int 1]) upd_same
  have mo8 : H o8 = none := Same.free (wo1.trans (wo2.trans (wo3.trans (wL0.trans (wo5.trans (wo6.trans wo7)))))) no8
  have do8 := f _ _ (D.lne mo8).1 (D.lne mo8).2 co8
  have co9 := (y9.trans wC) o9 (.tup [.ref o8]) upd_same
  have mo9 : H o9 = none := Same.free (wo1.trans (wo2.trans (wo3.trans (wL0.trans (wo5.trans (wo6.trans (wo7.trans wo8))))))) no9
  have do9 := f _ _ (D.lne mo9).1 (D.lne mo9).2 co9
  have k := fun x d => k H' x d ((Same.fr (p := p) (l := l) yy).trans f) D'
  clear co1 co2 co3 co5 co6 co7 co8 co9 y0 y1 y2 y3 y4 y5 y6 y7 y8 y9 yy wo1 wo2 wo3 wL0 wo5 wo6 wo7 wo8 wo9 wL1 wC f D' D1
  simp only [List.mem_append, List.mem_cons, List.not_mem_nil, or_false] at hx
  rcases hx with (rfl | rfl | rfl | rfl | rfl | rfl | rfl | rfl | rfl | rfl) | (rfl | rfl | rfl | rfl | rfl)
  · exact k _ _ (fun _ _ => .non) ⟨by decide +kernel, by decide +kernel, by decide +kernel⟩ rfl
  · exact k _ _ (fun _ _ => .bl _) ⟨by decide +kernel, by decide +kernel, by decide +kernel⟩ rfl
  · exact k _ _ (fun _ _ => .bl _) ⟨by decide +kernel, by decide +kernel, by decide +kernel⟩ rfl
  · exact k _ _ (fun _ _ => .int _) ⟨by decide +kernel, by decide +kernel, by decide +kernel⟩ rfl
  · exact k _ _ (fun _ _ => .int _) ⟨by decide +kernel, by decide +kernel, by decide +kernel⟩ rfl
  · exact k _ _ (fun _ _ => .str _) ⟨by decide +kernel, by decide +kernel, by decide +kernel⟩ rfl
  · exact k _ _ (fun _ _ => .str _) ⟨by decide +kernel, by decide +kernel, by decide +kernel⟩ rfl
  · exact k _ _ (fun H2 h => .tup (h _ _ mo1 do1) .nil) ⟨by decide +kernel, by decide +kernel, by decide +kernel⟩ rfl
  · exact k _ _ (fun H2 h => .lst (h _ _ mo2 do2) eo2 .nil) ⟨by decide +kernel, by decide +kernel, by decide +kernel⟩ rfl
  · exact k _ _ (fun H2 h => .tup (h _ _ mo3 do3) (.cons (.int _) .nil)) ⟨by decide +kernel, by decide +kernel, by decide +kernel⟩ rfl
  · exact k _ _ (fun H2 h => .lst (h _ _ mo5 do5) eo5 (.cons (.int _) (.cons (.int _) .nil))) ⟨by decide +kernel, by decide +kernel, by decide +kernel⟩ rfl
  · exact k _ _ (fun H2 h => .dic [] (h _ _ mo6 do6)) ⟨by decide +kernel, by decide +kernel, by decide +kernel⟩ rfl
  · exact k _ _ (fun H2 h => .tup (h _ _ mo7 do7) (.cons (.str _) .nil)) ⟨by decide +kernel, by decide +kernel, by decide +kernel⟩ rfl
  · exact k _ _ (fun H2 h => .tup (h _ _ mo9 do9) (.cons (.tup (h _ _ mo8 do8) (.cons (.int _) (.cons (.int _) .nil))) .nil)) ⟨by decide +kernel, by decide +kernel, by decide +kernel⟩ rfl
  · exact k _ _ (fun _ _ => .int _) ⟨by decide +kernel, by decide +kernel, by decide +kernel⟩ rfl
end
end Sm

set_option Elab.async false
set_option linter.all false
set_option maxRecDepth 100000
set_option maxHeartbeats 16000000
namespace Sm
open PySem PySem.Spec PyProof.Rows L2
open C8 (pss_cut tCut)
def FormOk (T : List Int) (p r : Int) : Prop := 1 ≤ p ∧ p ≤ (T.length : Int) ∧ 0 ≤ r ∧ ∀ i, i < T.length → 0 ≤ T.getD i 0
def FormD (ds : List PyData) (dp dr : PyData) : Prop := ∃ (T : List Int) (p r : Int), ds = T.map PyData.int ∧ dp = .int p ∧ dr = .int r ∧ FormOk T p r
def sp_told_error (K : PySem.W.Frag) : Sp := fun vs H Q _ => ∃ (a : Addr) (xs : List V) (ds : List PyData) (vp vr : V) (dp dr : PyData), vs = [.ref a, vp, vr] ∧ SA H a xs ∧ DqAll K H xs ds ∧ xs.length ≤ 6000 ∧ Dq K H vp dp ∧ Dq K H vr dr ∧
  (∀ H', Same H H' → ¬ FormD ds dp dr → Q (.str "form") H') ∧ (∀ H' T p r, Same H H' → ds = T.map PyData.int → dp = .int p → dr = .int r → FormOk T p r → ¬ RuleOk T p.toNat r → Q (.str "falls") H') ∧
  (∀ H' T p r, Same H H' → ds = T.map PyData.int → dp = .int p → dr = .int r → FormOk T p r → RuleOk T p.toNat r → Q .non H')
theorem ite3n {p A B : Prop} [Decidable p] (h1 : p → B) (h2 : ¬ p → A) : if (!decide p) = true then A else B := by
  by_cases h : p
  · exact iteNP h (h1 h)
  · exact iteNN h (h2 h)
theorem any_mono {T : List Int} : ((List.range (T.length - 1)).map fun i => decide (T.getD i 0 > T.getD (i + 1) 0)).any id = false ↔ ∀ i, i + 1 < T.length → T.getD i 0 ≤ T.getD (i + 1) 0 := by
  rw [List.any_map, List.any_eq_false]
  constructor
  · intro h i hi
    have := h i (List.mem_range.mpr (by omega))
    have := of_decide_eq_false (Bool.eq_false_iff.mpr this)
    omega
  · intro h i hi
    have := h i (by have := List.mem_range.mp hi; omega)
    exact Bool.eq_false_iff.mp (decide_eq_false (by omega))
theorem dqa_len {K : PySem.W.Frag} {H : Hp} : ∀ {xs : List V} {ds : List PyData}, DqAll K H xs ds → xs.length = ds.length
  | _, _, .nil => rfl
  | _, _, .cons _ t => by rw [List.length_cons, List.length_cons, dqa_len t]
theorem dqa_at {K : PySem.W.Frag} {H : Hp} : ∀ {xs : List V} {ds : List PyData} {j : Nat} {x : V}, DqAll K H xs ds → xs[j]? = some x → Dq K H x (ds.getD j .none)
  | _, _, 0, _, .cons h _, e => by cases e; exact h
  | _, _, j + 1, _, .cons _ t, e => dqa_at (j := j) t e
theorem dqa_ints {K : PySem.W.Frag} {H : Hp} : ∀ {xs : List V} {T : List Int}, DqAll K H xs (T.map PyData.int) → xs = T.map V.int
  | _, [], .nil => rfl
  | _, t :: T, .cons (.int _) h => by rw [List.map_cons, dqa_ints h]
theorem dqa_of {K : PySem.W.Frag} {H : Hp} : ∀ T : List Int, DqAll K H (T.map V.int) (T.map PyData.int)
  | [] => .nil
  | t :: T => .cons (.int t) (dqa_of T)
theorem all_am : ∀ {ds : List PyData}, ((List.range ds.length).map fun i => amB (ds.getD i .none)).all id = true → ∃ T : List Int, ds = T.map PyData.int ∧ ∀ i, i < T.length → 0 ≤ T.getD i 0 := by
  intro ds
  induction ds with
  | nil => intro _; exact ⟨[], rfl, fun i h => absurd h (Nat.not_lt_zero _)⟩
  | cons d ds ih =>
    intro h
    rw [List.length_cons, List.range_succ_eq_map, List.map_cons, List.all_cons, Bool.and_eq_true, List.map_map] at h
    obtain ⟨h1, h2⟩ := h
    obtain ⟨T, rfl, hT⟩ := ih h2
    cases d with
    | int t =>
      refine ⟨t :: T, rfl, fun i hi => ?_⟩
      cases i with
      | zero => exact of_decide_eq_true h1
      | succ i => exact hT i (Nat.lt_of_succ_lt_succ hi)
    | _ => cases h1
theorem all_am_of {T : List Int} (h : ∀ i, i < T.length → 0 ≤ T.getD i 0) : ((List.range (T.map PyData.int).length).map fun i => amB ((T.map PyData.int).getD i .none)).all id = true := by
  rw [List.all_map, List.all_eq_true]
  intro i hi
  have hi := List.mem_range.mp hi
  rw [List.length_map] at hi
  have e : (T.map PyData.int).getD i .none = .int (T.getD i 0) := by
    rw [List.getD_eq_getElem?_getD, List.getElem?_map, List.getD_eq_getElem?_getD, List.getElem?_eq_getElem hi]
    rfl
  show amB ((T.map PyData.int).getD i .none) = true
  rw [e]
  exact decide_eq_true (h i hi)
theorem isW_int {d : PyData} (h : isW d = true) : ∃ i, d = .int i := by
  cases d with
  | int i => exact ⟨i, rfl⟩
  | _ => cases h
theorem amB_int {d : PyData} (h : amB d = true) : ∃ i, d = .int i ∧ 0 ≤ i := by
  cases d with
  | int i => exact ⟨i, rfl, of_decide_eq_true h⟩
  | _ => cases h
theorem map_int_inj : ∀ {S T : List Int}, S.map PyData.int = T.map PyData.int → S = T
  | [], [], _ => rfl
  | s :: S, t :: T, h => by
    rw [List.map_cons, List.map_cons] at h
    injection h with h1 h2
    injection h1 with h1
    rw [h1, map_int_inj h2]
section
variable {P : Program} {w : World} {K : PySem.W.Frag} {mg : Str → Option Value} {base : Heap}
abbrev s_told_error : Stmt := topS 13
abbrev N_told_error : List Str := ["table", "period", "rise", "at", "worth"]
theorem sc_told_error : FnScope N_told_error ["table", "period", "rise"] (defScope s_told_error) := ⟨rfl, rfl, rfl, by decide +kernel, rfl, by decide +kernel, by decide +kernel⟩
theorem ok_told_error (T : Txt mg) (D : Df K mg "told_error" s_told_error ["table", "period", "rise"]) (C_is_amount : Cal P w K mg base "is_amount" ["value"] 2 (sp_is_amount K)) (C_is_whole : Cal P w K mg base "is_whole" ["value"] 1 (sp_is_whole K)) : Cal P w K mg base "told_error" ["table", "period", "rise"] 3 (sp_told_error K) := by
  obtain ⟨f_is_amount, fd_is_amount, G_is_amount, m_is_amount, k_is_amount, b_is_amount⟩ := C_is_amount
  obtain ⟨f_is_whole, fd_is_whole, G_is_whole, m_is_whole, k_is_whole, b_is_whole⟩ := C_is_whole
  refine D.cal sc_told_error (fun vs H Q E h => ?_) (fun f cdv A outer s H vs Q E hr h => ?_)
  · obtain ⟨a, xs, ds, vp, vr, dp, dr, rfl, _⟩ := h
    rfl
  obtain ⟨a, xs, ds, vp, vr, dp, dr, rfl, hA, hds, tl, hp, hv, kf, ke, kr⟩ := h
  have ld := dqa_len hds
  rcases id hA with hS | hS
  ·
    refine ⟨_, (pss_cons (ps_if (PW.pt (pw_or (pt_not (pt_val (pe_call G_is_whole (hr.mono (by decide)) (by rfl) m_is_whole k_is_whole b_is_whole .nil pass0 (pa_cons (pv 1) pa_nil)))) (pw_or (pt_not (pt_chain op_le op_le pe_int (pv 1) (pe_callB call_len_seq (by rfl) T.n_len (by decide +kernel) (pa_cons (pv 0) pa_nil)))) (pw_or1 (pt_not (pt_val (pe_call G_is_amount (hr.mono (by decide)) (by rfl) m_is_amount k_is_amount b_is_amount .nil pass0 (pa_cons (pv 2) pa_nil)))))))) (pss_one (ps_ret pe_str)) pss_nil)
    (pss_cons (ps_if (pt_not (pt_val (pe_callB (cr_all rfl) (by rfl) T.n_all (by decide +kernel) (pa_cons (pe_lc (own := [("worth", 4)]) (g := gName 4) (tt := tYes) rfl sc_told_error.nd (pi_list (pv 0)) (blkOk_by (own := [("worth", 4)]) (N := N_told_error) (sc := defScope s_told_error) (by decide +kernel)) (fun _ _ _ _ _ => pg_name (i := 4) sc_told_error.nd rfl (Or.inl rfl)) (fun _ _ _ _ _ => pts_nil) (fun _ _ _ _ _ => (pe_call G_is_amount (hr.mono (by decide)) (by rfl) m_is_amount k_is_amount b_is_amount .nil pass0 (pa_cons (pv 4) pa_nil)))) pa_nil)))) (pss_one (ps_ret pe_str)) pss_nil)
    (pss_cons (ps_if (pt_val (pe_callB (cr_any rfl) (by rfl) T.n_any (by decide +kernel) (pa_cons (pe_lc (own := [("at", 3)]) (g := gName 3) (tt := tYes) rfl sc_told_error.nd (pi_range1 (by rfl) T.n_range (pa_cons (pe_op op_sub (pe_callB call_len_seq (by rfl) T.n_len (by decide +kernel) (pa_cons (pv 0) pa_nil)) pe_int) pa_nil)) (blkOk_by (own := [("at", 3)]) (N := N_told_error) (sc := defScope s_told_error) (by decide +kernel)) (fun _ _ _ _ _ => pg_name (i := 3) sc_told_error.nd rfl (Or.inl rfl)) (fun _ _ _ _ _ => pts_nil) (fun _ _ _ _ _ => (pe_cmpR op_gt (pe_ix (show IxR _ (rIx K) from ix_seq) (pv 0) (pv 3) (fun _ _ => rfl)) (pe_ix (show IxR _ (rIx K) from ix_seq) (pv 0) (pe_op op_add (pv 3) pe_int) (fun _ _ => rfl)) (nomark _)))) pa_nil))) (pss_one (ps_ret pe_str)) pss_nil)
    (pss_cons (ps_if (pt_cmpR op_gt (pe_ix ix_seq (pv 0) (pe_un un_neg pe_int) (fun _ _ => rfl)) (pe_op op_add (pe_ix ix_seq (pv 0) (pe_op op_sub (pe_callB call_len_seq (by rfl) T.n_len (by decide +kernel) (pa_cons (pv 0) pa_nil)) (pv 1)) (fun _ _ => rfl)) (pv 2)) (nomark _)) (pss_one (ps_ret pe_str)) pss_nil)
    (pss_one (ps_ret pe_non)))))), ?_⟩
    refine ⟨_, rfl, vp, dp, rfl, hp, _, rfl, ?_⟩
    cases wp : isW dp with
    | false =>
      refine iteT (iteT (kf H (Same.refl _) fun F => ?_))
      obtain ⟨T, p, r, _, rfl, _⟩ := F
      cases wp
    | true =>
    obtain ⟨p, rfl⟩ := isW_int wp
    cases hp
    refine iteF ?_
    refine ⟨_, rfl, _, _, rfl, rfl, _, rfl, ite3 (fun c1 => ?_) (fun c1 => ⟨_, rfl, iteT (kf H (Same.refl _) fun F => ?_)⟩)⟩
    rotate_left
    · obtain ⟨T, p', r, _, e, _, F⟩ := F
      cases e
      exact c1 F.1
    refine ⟨_, rfl, _, _, rfl, hA.sq, _, _, rfl, rfl, _, rfl, ite3n (fun c2 => ?_) (fun c2 => kf H (Same.refl _) fun F => ?_)⟩
    rotate_left
    · obtain ⟨T, p', r, rfl, e, _, F⟩ := F
      cases e
      have := F.2.1
      rw [List.length_map] at ld
      exact c2 (by omega)
    refine ⟨_, rfl, vr, dr, rfl, hv, _, rfl, ?_⟩
    cases wr : amB dr with
    | false =>
      refine iteT (kf H (Same.refl _) fun F => ?_)
      obtain ⟨T, p', r, _, _, rfl, F⟩ := F
      exact absurd (show amB (.int r) = true from decide_eq_true F.2.2.1) (by rw [wr]; exact Bool.false_ne_true)
    | true =>
    obtain ⟨r, rfl, c3⟩ := amB_int wr
    cases hv
    refine iteF ?_
    -- all
    refine ⟨_, rfl, a, rfl, ⟨_, SqL.of hS⟩, fun D nD => ?_⟩
    refine lc_mL (fun i => .bl (amB (ds.getD i .none))) hS nD (by omega) ?_ gName_mono ?_
    · intro i x H' hx s' R' hR
      exact ⟨rfl, _, rfl, x, _, rfl, (dqa_at hds hx).same s', hR H' (Same.refl _)⟩
    intro H1 s1 hD
    have hD : H1 D = some (.lst (((List.range ds.length).map fun i => amB (ds.getD i .none)).map V.bl)) := by rw [hD, ld, List.map_map]; rfl
    refine ⟨D, _, rfl, SqL.of hD, _, rfl, ?_⟩
    have hA1 := hA.same s1
    cases c4 : (((List.range ds.length).map fun i => amB (ds.getD i .none)).all id) with
    | false =>
      refine iteT (kf H1 s1 fun F => ?_)
      obtain ⟨T, p', r', rfl, _, _, F⟩ := F
      rw [all_am_of F.2.2.2] at c4
      cases c4
    | true =>
    obtain ⟨T0, rfl, c7⟩ := all_am c4
    obtain rfl := dqa_ints hds
    refine iteF ?_
    have ll := len_int T0
    have lm : (T0.map V.int).length = T0.length := List.length_map ..
    rw [ll] at c2
    have F : FormOk T0 p r := ⟨c1, c2, c3, c7⟩
    have ke := fun H' (s : Same H H') => ke H' T0 p r s rfl rfl rfl F
    have kr := fun H' (s : Same H H') => kr H' T0 p r s rfl rfl rfl F
    obtain ⟨q, rfl⟩ : ∃ q : Nat, p = (q : Int) := ⟨p.toNat, by omega⟩
    rw [Int.toNat_natCast] at kr ke
    -- any
    refine ⟨_, rfl, _, _, rfl, hA1.sq, _, _, rfl, rfl, _, rfl, (by rw [ll]; omega), (by rw [ll]; omega), fun U nU => ?_⟩
    have cnt : ((((T0.map V.int).length : Nat) : Int) - 1).toNat = T0.length - 1 := by rw [ll]; omega
    rw [cnt]
    have sU := same_upd (o := .lst []) nU
    refine lc_range (lo := 0) (n := T0.length - 1) (fun j H' => Same H1 H' ∧ H' U = some (.lst (((List.range j).map fun i => decide (T0.getD i 0 > T0.getD (i + 1) 0)).map V.bl))) ⟨sU, upd_same⟩ ?_ ?_
    · rintro j H' hj ⟨s', hU⟩
      refine ⟨rfl, ?_⟩
      unfold tYes
      refine iteT ?_
      refine ⟨_, rfl, _, rfl, ix_any (hA1.same s') (at_of (j := j) (Int.zero_add _) (get_int (by omega))) ⟨_, rfl, _, rfl, _, _, rfl, rfl, ix_any (hA1.same s') (at_of (j := j + 1) (by omega) (get_int (by omega))) ⟨_, _, rfl, rfl, _, hU, ?_, fun b o e => ?_, ?_⟩⟩⟩
      · rw [List.length_map, List.length_map, List.length_range]
        exact Nat.lt_of_le_of_lt (show j ≤ 6000 by omega) (by decide)
      · rw [upd_ne (ne_of_none e nU)]
        exact s' _ _ e
      · rw [upd_same, List.range_succ, List.map_append, List.map_append]
        rfl
    rintro H2 ⟨s2, hU⟩
    refine ⟨U, _, rfl, SqL.of hU, _, rfl, ?_⟩
    have hA2 := hA1.same s2
    have s12 := s1.trans s2
    by_cases c5 : ∀ i, i + 1 < T0.length → T0.getD i 0 ≤ T0.getD (i + 1) 0
    · rw [any_mono.mpr c5]
      refine iteF ?_
      have e1 : (((T0.map V.int).length : Nat) : Int) - (q : Int) = ((T0.length - q : Nat) : Int) := by rw [ll]; omega
      refine ⟨_, rfl, _, rfl, ix_any hA2 (last_int (by omega)) ⟨_, rfl, _, rfl, _, _, rfl, hA2.sq, _, rfl, _, _, rfl, rfl, ix_any hA2 (at_of e1 (get_int (by omega))) ⟨_, rfl, _, _, rfl, rfl, _, _, rfl, rfl, _, rfl, ite3 (fun c6 => ke H2 s12 fun o => ?_) (fun c6 => kr H2 s12 ⟨by omega, by omega, c3, c7, c5, by omega⟩)⟩⟩⟩
      have := o.wrap
      omega
    · rw [show (((List.range (T0.length - 1)).map fun i => decide (T0.getD i 0 > T0.getD (i + 1) 0)).any id) = true from by
        cases z : ((List.range (T0.length - 1)).map fun i => decide (T0.getD i 0 > T0.getD (i + 1) 0)).any id with
        | true => rfl
        | false => exact absurd (any_mono.mp z) c5]
      exact iteT (ke H2 s12 fun o => c5 o.mono)
  ·
    refine ⟨_, (pss_cons (ps_if (PW.pt (pw_or (pt_not (pt_val (pe_call G_is_whole (hr.mono (by decide)) (by rfl) m_is_whole k_is_whole b_is_whole .nil pass0 (pa_cons (pv 1) pa_nil)))) (pw_or (pt_not (pt_chain op_le op_le pe_int (pv 1) (pe_callB call_len_seq (by rfl) T.n_len (by decide +kernel) (pa_cons (pv 0) pa_nil)))) (pw_or1 (pt_not (pt_val (pe_call G_is_amount (hr.mono (by decide)) (by rfl) m_is_amount k_is_amount b_is_amount .nil pass0 (pa_cons (pv 2) pa_nil)))))))) (pss_one (ps_ret pe_str)) pss_nil)
    (pss_cons (ps_if (pt_not (pt_val (pe_callB (cr_all rfl) (by rfl) T.n_all (by decide +kernel) (pa_cons (pe_lc (own := [("worth", 4)]) (g := gName 4) (tt := tYes) rfl sc_told_error.nd (pi_tup (pv 0)) (blkOk_by (own := [("worth", 4)]) (N := N_told_error) (sc := defScope s_told_error) (by decide +kernel)) (fun _ _ _ _ _ => pg_name (i := 4) sc_told_error.nd rfl (Or.inl rfl)) (fun _ _ _ _ _ => pts_nil) (fun _ _ _ _ _ => (pe_call G_is_amount (hr.mono (by decide)) (by rfl) m_is_amount k_is_amount b_is_amount .nil pass0 (pa_cons (pv 4) pa_nil)))) pa_nil)))) (pss_one (ps_ret pe_str)) pss_nil)
    (pss_cons (ps_if (pt_val (pe_callB (cr_any rfl) (by rfl) T.n_any (by decide +kernel) (pa_cons (pe_lc (own := [("at", 3)]) (g := gName 3) (tt := tYes) rfl sc_told_error.nd (pi_range1 (by rfl) T.n_range (pa_cons (pe_op op_sub (pe_callB call_len_seq (by rfl) T.n_len (by decide +kernel) (pa_cons (pv 0) pa_nil)) pe_int) pa_nil)) (blkOk_by (own := [("at", 3)]) (N := N_told_error) (sc := defScope s_told_error) (by decide +kernel)) (fun _ _ _ _ _ => pg_name (i := 3) sc_told_error.nd rfl (Or.inl rfl)) (fun _ _ _ _ _ => pts_nil) (fun _ _ _ _ _ => (pe_cmpR op_gt (pe_ix (show IxR _ (rIx K) from ix_seq) (pv 0) (pv 3) (fun _ _ => rfl)) (pe_ix (show IxR _ (rIx K) from ix_seq) (pv 0) (pe_op op_add (pv 3) pe_int) (fun _ _ => rfl)) (nomark _)))) pa_nil))) (pss_one (ps_ret pe_str)) pss_nil)
    (pss_cons (ps_if (pt_cmpR op_gt (pe_ix ix_seq (pv 0) (pe_un un_neg pe_int) (fun _ _ => rfl)) (pe_op op_add (pe_ix ix_seq (pv 0) (pe_op op_sub (pe_callB call_len_seq (by rfl) T.n_len (by decide +kernel) (pa_cons (pv 0) pa_nil)) (pv 1)) (fun _ _ => rfl)) (pv 2)) (nomark _)) (pss_one (ps_ret pe_str)) pss_nil)
    (pss_one (ps_ret pe_non)))))), ?_⟩
    refine ⟨_, rfl, vp, dp, rfl, hp, _, rfl, ?_⟩
    cases wp : isW dp with
    | false =>
      refine iteT (iteT (kf H (Same.refl _) fun F => ?_))
      obtain ⟨T, p, r, _, rfl, _⟩ := F
      cases wp
    | true =>
    obtain ⟨p, rfl⟩ := isW_int wp
    cases hp
    refine iteF ?_
    refine ⟨_, rfl, _, _, rfl, rfl, _, rfl, ite3 (fun c1 => ?_) (fun c1 => ⟨_, rfl, iteT (kf H (Same.refl _) fun F => ?_)⟩)⟩
    rotate_left
    · obtain ⟨T, p', r, _, e, _, F⟩ := F
      cases e
      exact c1 F.1
    refine ⟨_, rfl, _, _, rfl, hA.sq, _, _, rfl, rfl, _, rfl, ite3n (fun c2 => ?_) (fun c2 => kf H (Same.refl _) fun F => ?_)⟩
    rotate_left
    · obtain ⟨T, p', r, rfl, e, _, F⟩ := F
      cases e
      have := F.2.1
      rw [List.length_map] at ld
      exact c2 (by omega)
    refine ⟨_, rfl, vr, dr, rfl, hv, _, rfl, ?_⟩
    cases wr : amB dr with
    | false =>
      refine iteT (kf H (Same.refl _) fun F => ?_)
      obtain ⟨T, p', r, _, _, rfl, F⟩ := F
      exact absurd (show amB (.int r) = true from decide_eq_true F.2.2.1) (by rw [wr]; exact Bool.false_ne_true)
    | true =>
    obtain ⟨r, rfl, c3⟩ := amB_int wr
    cases hv
    refine iteF ?_
    -- all
    refine ⟨_, rfl, a, rfl, ⟨_, SqT.of hS⟩, fun D nD => ?_⟩
    refine lc_mT (fun i => .bl (amB (ds.getD i .none))) hS nD (by omega) ?_ gName_mono ?_
    · intro i x H' hx s' R' hR
      exact ⟨rfl, _, rfl, x, _, rfl, (dqa_at hds hx).same s', hR H' (Same.refl _)⟩
    intro H1 s1 hD
    have hD : H1 D = some (.lst (((List.range ds.length).map fun i => amB (ds.getD i .none)).map V.bl)) := by rw [hD, ld, List.map_map]; rfl
    refine ⟨D, _, rfl, SqL.of hD, _, rfl, ?_⟩
    have hA1 := hA.same s1
    cases c4 : (((List.range ds.length).map fun i => amB (ds.getD i .none)).all id) with
    | false =>
      refine iteT (kf H1 s1 fun F => ?_)
      obtain ⟨T, p', r', rfl, _, _, F⟩ := F
      rw [all_am_of F.2.2.2] at c4
      cases c4
    | true =>
    obtain ⟨T0, rfl, c7⟩ := all_am c4
    obtain rfl := dqa_ints hds
    refine iteF ?_
    have ll := len_int T0
    have lm : (T0.map V.int).length = T0.length := List.length_map ..
    rw [ll] at c2
    have F : FormOk T0 p r := ⟨c1, c2, c3, c7⟩
    have ke := fun H' (s : Same H H') => ke H' T0 p r s rfl rfl rfl F
    have kr := fun H' (s : Same H H') => kr H' T0 p r s rfl rfl rfl F
    obtain ⟨q, rfl⟩ : ∃ q : Nat, p = (q : Int) := ⟨p.toNat, by omega⟩
    rw [Int.toNat_natCast] at kr ke
    -- any
    refine ⟨_, rfl, _, _, rfl, hA1.sq, _, _, rfl, rfl, _, rfl, (by rw [ll]; omega), (by rw [ll]; omega), fun U nU => ?_⟩
    have cnt : ((((T0.map V.int).length : Nat) : Int) - 1).toNat = T0.length - 1 := by rw [ll]; omega
    rw [cnt]
    have sU := same_upd (o := .lst []) nU
    refine lc_range (lo := 0) (n := T0.length - 1) (fun j H' => Same H1 H' ∧ H' U = some (.lst (((List.range j).map fun i => decide (T0.getD i 0 > T0.getD (i + 1) 0)).map V.bl))) ⟨sU, upd_same⟩ ?_ ?_
    · rintro j H' hj ⟨s', hU⟩
      refine ⟨rfl, ?_⟩
      unfold tYes
      refine iteT ?_
      refine ⟨_, rfl, _, rfl, ix_any (hA1.same s') (at_of (j := j) (Int.zero_add _) (get_int (by omega))) ⟨_, rfl, _, rfl, _, _, rfl, rfl, ix_any (hA1.same s') (at_of (j := j + 1) (by omega) (get_int (by omega))) ⟨_, _, rfl, rfl, _, hU, ?_, fun b o e => ?_, ?_⟩⟩⟩
      · rw [List.length_map, List.length_map, List.length_range]
        exact Nat.lt_of_le_of_lt (show j ≤ 6000 by omega) (by decide)
      · rw [upd_ne (ne_of_none e nU)]
        exact s' _ _ e
      · rw [upd_same, List.range_succ, List.map_append, List.map_append]
        rfl
    rintro H2 ⟨s2, hU⟩
    refine ⟨U, _, rfl, SqL.of hU, _, rfl, ?_⟩
    have hA2 := hA1.same s2
    have s12 := s1.trans s2
    by_cases c5 : ∀ i, i + 1 < T0.length → T0.getD i 0 ≤ T0.getD (i + 1) 0
    · rw [any_mono.mpr c5]
      refine iteF ?_
      have e1 : (((T0.map V.int).length : Nat) : Int) - (q : Int) = ((T0.length - q : Nat) : Int) := by rw [ll]; omega
      refine ⟨_, rfl, _, rfl, ix_any hA2 (last_int (by omega)) ⟨_, rfl, _, rfl, _, _, rfl, hA2.sq, _, rfl, _, _, rfl, rfl, ix_any hA2 (at_of e1 (get_int (by omega))) ⟨_, rfl, _, _, rfl, rfl, _, _, rfl, rfl, _, rfl, ite3 (fun c6 => ke H2 s12 fun o => ?_) (fun c6 => kr H2 s12 ⟨by omega, by omega, c3, c7, c5, by omega⟩)⟩⟩⟩
      have := o.wrap
      omega
    · rw [show (((List.range (T0.length - 1)).map fun i => decide (T0.getD i 0 > T0.getD (i + 1) 0)).any id) = true from by
        cases z : ((List.range (T0.length - 1)).map fun i => decide (T0.getD i 0 > T0.getD (i + 1) 0)).any id with
        | true => rfl
        | false => exact absurd (any_mono.mp z) c5]
      exact iteT (ke H2 s12 fun o => c5 o.mono)
end
end Sm

set_option Elab.async false
set_option linter.all false
set_option maxRecDepth 100000
set_option maxHeartbeats 16000000
namespace Sm
open PySem PySem.Spec PyProof.Rows L2
open C8 (pss_cut tCut)
def ruD (T : List Int) (p : Nat) (r : Int) : PyData := .tuple [.tuple (T.map PyData.int), .int (p : Int), .int r]
theorem dq_rule {K : PySem.W.Frag} {H : Hp} {d : Addr} {T : List Int} {p : Nat} {r : Int} (R : RuleAt H d T p r) : Dq K H (.ref d) (ruD T p r) := by
  obtain ⟨t, hd, ht⟩ := R
  exact .tup hd (.cons (.tup ht (dqa_of T)) (.cons (.int _) (.cons (.int _) .nil)))
theorem dq_inv {K : PySem.W.Frag} {H : Hp} {v : V} {T : List Int} {p : Nat} {r : Int} (h : Dq K H v (ruD T p r)) : ∃ d, v = .ref d ∧ RuleAt H d T p r := by
  unfold ruD at h
  cases h with
  | @tup q xs ds e1 e2 =>
    cases e2 with
    | cons h1 e2 =>
      cases e2 with
      | cons h2 e2 =>
        cases e2 with
        | cons h3 e2 =>
          cases e2
          cases h2
          cases h3
          cases h1 with
          | @tup t ys es f1 f2 =>
            rw [dqa_ints f2] at f1
            exact ⟨q, rfl, t, e1, f1⟩
/-- what stands behind a wrong rule: the word of the fault; none for a right one -/
def Vd (d : PyData) (w : V) : Prop := ((¬ ∃ T p r, d = ruD T p r ∧ FormOk T (p : Int) r) ∧ w = .str "form") ∨ ∃ T p r, d = ruD T p r ∧ FormOk T (p : Int) r ∧ ((¬ RuleOk T p r ∧ w = .str "falls") ∨ (RuleOk T p r ∧ ((¬ Short T p r ∧ w = .str "long") ∨ (Short T p r ∧ w = .non))))
theorem Vd.form {d : PyData} (h : ¬ ∃ T p r, d = ruD T p r ∧ FormOk T (p : Int) r) : Vd d (.str "form") := .inl ⟨h, rfl⟩
structure Bd (d : PyData) : Prop where
  len : ∀ ds dp dr, d = .tuple [.tuple ds, dp, dr] → ds.length ≤ 5000
  rb : ∀ T p r, d = ruD T p r → RuleOk T p r → RB T p r
def sp_rule_error (K : PySem.W.Frag) : Sp := fun vs H Q _ => ∃ (v : V) (d : PyData), vs = [v] ∧ Dq K H v d ∧ Bd d ∧ ∀ w H', Same H H' → Vd d w → Q w H'
def sp_rule_errorO (cRule : Addr) : Sp := fun vs H Q _ => ∃ (b dx : Addr) (fs : List (Str × V)), vs = [.ref b] ∧ H b = some (.ins cRule dx fs) ∧ Q (.str "form") H
def sp_canon (K : PySem.W.Frag) (cB : Addr) : Sp := fun vs H Q E => ∃ (a : Addr) (T : List Int) (p r : Int), vs = [.ref a, .int p, .int r] ∧ SA H a (T.map V.int) ∧ T.length ≤ 5000 ∧ (RuleOk T p.toNat r → RB T p.toNat r) ∧
  (¬ FormOk T p r → ∀ H' y, Same H H' → H' y = some (.xd [(("error" : Str), .str "form")]) → E (.ref cB) (some y) H') ∧
  (FormOk T p r → ¬ RuleOk T p.toNat r → ∀ H' y, Same H H' → H' y = some (.xd [(("error" : Str), .str "falls")]) → E (.ref cB) (some y) H') ∧
  (FormOk T p r → RuleOk T p.toNat r → ∀ H' d T' p' r', Same H H' → RuleAt H' d T' p' r' → Short T' p' r' → (∀ x, vl T' p' r' x = vl T p.toNat r x) → T'.length ≤ T.length → Q (.ref d) H')
theorem ps_no {X : Cx} {st : Stmt} : PS X st (fun _ _ _ => False) := by
  constructor
  intros
  contradiction
theorem len3 {ds : List PyData} {T : List Int} {p : Nat} {r : Int} (h : PyData.tuple ds = ruD T p r) : ds.length = 3 := by
  unfold ruD at h
  injection h with h
  rw [h]
  rfl
section
variable {P : Program} {w : World} {K : PySem.W.Frag} {mg : Str → Option Value} {base : Heap} {cBadRule fB cRule : Addr}
abbrev s_rule_error : Stmt := topS 12
abbrev N_rule_error : List Str := ["value", "table", "period", "rise", "wrong"]
theorem sc_rule_error : FnScope N_rule_error ["value"] (defScope s_rule_error) := ⟨rfl, rfl, rfl, by decide +kernel, rfl, by decide +kernel, by decide +kernel⟩
theorem ok_rule_error (T : Txt mg) (D : Df K mg "rule_error" s_rule_error ["value"]) (C_shortest : Cal P w K mg base "shortest" ["table", "period", "rise"] 2 (sp_shortest K)) (C_told_error : Cal P w K mg base "told_error" ["table", "period", "rise"] 3 (sp_told_error K)) : Cal P w K mg base "rule_error" ["value"] 4 (sp_rule_error K) := by
  obtain ⟨f_shortest, fd_shortest, G_shortest, m_shortest, k_shortest, b_shortest⟩ := C_shortest
  obtain ⟨f_told_error, fd_told_error, G_told_error, m_told_error, k_told_error, b_told_error⟩ := C_told_error
  refine D.cal sc_rule_error (fun vs H Q E h => ?_) (fun f cdv A outer s H vs Q E hr h => ?_)
  · obtain ⟨v, d, rfl, _⟩ := h
    rfl
  obtain ⟨v, d, rfl, hD, bd, kk⟩ := h
  refine ⟨_, (pss_cons (ps_if (PW.pt (pw_or (pt_not (pt_val (pe_callB call_isQ (by rfl) T.n_isinstance (by decide +kernel) (pa_cons (pv 0) (pa_cons (pe_bltn (v := .ty "tuple") (by rfl) T.n_tuple (by decide +kernel) rfl) pa_nil))))) (pw_or (pt_cmpR op_ne (pe_callB call_len_seq (by rfl) T.n_len (by decide +kernel) (pa_cons (pv 0) pa_nil)) pe_int (nomark _)) (pw_or1 (pt_not (pt_val (pe_callB call_isQ (by rfl) T.n_isinstance (by decide +kernel) (pa_cons (pe_ix ix_tup (pv 0) pe_int (fun _ _ => rfl)) (pa_cons (pe_bltn (v := .ty "tuple") (by rfl) T.n_tuple (by decide +kernel) rfl) pa_nil))))))))) (pss_one (ps_ret pe_str)) pss_nil)
    (pss_cons (ps_asg (pv 0) (pg_tup (by rfl) (pgs_cons (pg_name (i := 1) sc_rule_error.nd rfl (Or.inl rfl)) (pgs_cons (pg_name (i := 2) sc_rule_error.nd rfl (Or.inl rfl)) (pgs_cons (pg_name (i := 3) sc_rule_error.nd rfl (Or.inl rfl)) pgs_nil)))))
    (pss_cons (ps_set (i := 4) sc_rule_error.nd rfl (Or.inl rfl) (pe_call G_told_error (hr.mono (by decide)) (by rfl) m_told_error k_told_error b_told_error .nil pass0 (pa_cons (pv 1) (pa_cons (pv 2) (pa_cons (pv 3) pa_nil)))))
    (pss_cons (ps_if (pt_cmpR op_notN (pv 4) pe_non (nomark _)) (pss_one (ps_ret (pv 4))) pss_nil)
    (pss_cons (ps_if (pt_cmpR op_lt (pe_callB call_len_seq (by rfl) T.n_len (by decide +kernel) (pa_cons (pe_ix ix_tup (pe_call G_shortest (hr.mono (by decide)) (by rfl) m_shortest k_shortest b_shortest .nil pass0 (pa_cons (pv 1) (pa_cons (pv 2) (pa_cons (pv 3) pa_nil)))) pe_int (fun _ _ => rfl)) pa_nil)) (pe_callB call_len_seq (by rfl) T.n_len (by decide +kernel) (pa_cons (pv 1) pa_nil)) (nomark _)) (pss_one (ps_ret pe_str)) pss_nil)
    (pss_one (ps_ret pe_non))))))), ?_⟩
  have nof : ∀ h : ¬ ∃ T p r, d = ruD T p r ∧ FormOk T (p : Int) r, Q (.str "form") H := fun h => kk _ H (Same.refl _) (Vd.form h)
  refine ⟨_, rfl, v, d, "tuple", rfl, hD, .inr (.inr (.inr (.inl rfl))), ?_⟩
  rw [of_tup]
  cases hD with
  | non => exact ⟨_, rfl, iteT (nof fun ⟨_, _, _, e, _⟩ => nomatch e)⟩
  | bl b => exact ⟨_, rfl, iteT (nof fun ⟨_, _, _, e, _⟩ => nomatch e)⟩
  | int i => exact ⟨_, rfl, iteT (nof fun ⟨_, _, _, e, _⟩ => nomatch e)⟩
  | str x => exact ⟨_, rfl, iteT (nof fun ⟨_, _, _, e, _⟩ => nomatch e)⟩
  | lst e1 e2 e3 => exact ⟨_, rfl, iteT (nof fun ⟨_, _, _, e, _⟩ => nomatch e)⟩
  | dic kvs e1 => exact ⟨_, rfl, iteT (nof fun ⟨_, _, _, e, _⟩ => nomatch e)⟩
  | @tup q xs ds e1 e2 =>
    have ln := dqa_len e2
    refine ⟨_, rfl, iteF ⟨_, rfl, q, _, rfl, .inr (SqT.of e1), rfl, _, rfl, ?_⟩⟩
    by_cases l3 : ds.length = 3
    · obtain ⟨a, b, c, rfl⟩ : ∃ a b c, ds = [a, b, c] := by
        match ds, l3 with
        | [a, b, c], _ => exact ⟨a, b, c, rfl⟩
      cases e2 with
      | @cons va _ _ _ ha e2 =>
        cases e2 with
        | @cons vb _ _ _ hb e2 =>
          cases e2 with
          | @cons vc _ _ _ hc e2 =>
            cases e2
            refine iteNP (by rfl) ?_
            refine ⟨_, rfl, _, _, _, _, rfl, rfl, SqT.of e1, atI_nat (j := 0) rfl, _, _, "tuple", rfl, ha, .inr (.inr (.inr (.inl rfl))), ?_⟩
            rw [of_tup]
            have ne : ∀ a : PyData, (∀ es, a ≠ .tuple es) → ¬ ∃ T p r, PyData.tuple [a, b, c] = ruD T p r ∧ FormOk T (p : Int) r := fun a h ⟨T, p, r, e, _⟩ => by
              unfold ruD at e
              injection e with e
              injection e with e _
              exact h _ e
            cases ha with
            | non => exact ⟨_, rfl, iteT (nof (ne _ fun _ z => nomatch z))⟩
            | bl b => exact ⟨_, rfl, iteT (nof (ne _ fun _ z => nomatch z))⟩
            | int i => exact ⟨_, rfl, iteT (nof (ne _ fun _ z => nomatch z))⟩
            | str x => exact ⟨_, rfl, iteT (nof (ne _ fun _ z => nomatch z))⟩
            | lst e1 e2 e3 => exact ⟨_, rfl, iteT (nof (ne _ fun _ z => nomatch z))⟩
            | dic kvs e1 => exact ⟨_, rfl, iteT (nof (ne _ fun _ z => nomatch z))⟩
            | @tup t ys es f1 f2 =>
              have tl := bd.len _ _ _ rfl
              have ly := dqa_len f2
              refine ⟨_, rfl, iteF ?_⟩
              refine ⟨_, rfl, q, _, rfl, SqT.of e1, rfl, _, _, rfl, _, _, rfl, _, _, rfl, rfl, ?_⟩
              refine ⟨_, rfl, _, rfl, _, rfl, t, ys, es, vb, vc, b, c, rfl, .inr f1, f2, by omega, hb, hc, fun H' s nf => ?_, fun H' T p r s e1 e2 e3 F nr => ?_, fun H1 T0 p r s1 z1 z2 z3 F so => ?_⟩
              · refine ⟨_, rfl, rfl, _, rfl, iteNN (fun e => nomatch e) ⟨_, rfl, kk _ H' s (Vd.form ?_)⟩⟩
                rintro ⟨T, p, r, e, F⟩
                unfold ruD at e
                injection e with e
                injection e with e4 e
                injection e with e5 e
                injection e with e6 e
                injection e4 with e4
                exact nf ⟨T, _, r, e4, e5, e6, F⟩
              · subst e1 e2 e3
                have p0 : ((p.toNat : Nat) : Int) = p := by have := F.1; omega
                refine ⟨_, rfl, rfl, _, rfl, iteNN (fun e => nomatch e) ⟨_, rfl, kk _ H' s (.inr ⟨T, p.toNat, r, ?_, ?_, .inl ⟨nr, rfl⟩⟩)⟩⟩
                · unfold ruD
                  rw [p0]
                · rw [p0]
                  exact F
              · subst z1 z2 z3
                obtain ⟨n, rfl⟩ : ∃ n : Nat, p = (n : Int) := ⟨p.toNat, by have := F.1; omega⟩
                rw [Int.toNat_natCast] at so
                have rb := bd.rb T0 n r rfl so
                obtain rfl := dqa_ints f2
                cases hb
                cases hc
                refine ⟨_, rfl, rfl, _, rfl, iteNP rfl ?_⟩
                refine ⟨_, rfl, _, rfl, _, rfl, t, T0, n, r, rfl, .inr (s1 _ _ f1), so, rb, fun H2 d' T' p' r' s2 R' c' sh hv => ?_⟩
                obtain ⟨t', hd', ht'⟩ := R'
                have s12 := s1.trans s2
                obtain ⟨q1, q2⟩ := short_rep sh so hv
                refine ⟨_, _, _, _, rfl, rfl, SqT.of hd', atI_nat (j := 0) rfl, _, _, rfl, .inr (SqT.of ht'), _, rfl, t, _, rfl, .inr (SqT.of (s12 _ _ f1)), _, _, rfl, rfl, _, rfl, ?_⟩
                rw [len_int, len_int]
                by_cases e : T'.length = T0.length
                · obtain ⟨rfl, rfl, rfl⟩ := q2 e
                  exact iteN (Int.lt_irrefl _) (kk _ H2 s12 (.inr ⟨_, _, _, rfl, F, .inr ⟨so, .inr ⟨sh, rfl⟩⟩⟩))
                · refine iteP (by omega) (kk _ H2 s12 (.inr ⟨_, _, _, rfl, F, .inr ⟨so, .inl ⟨fun sh2 => ?_, rfl⟩⟩⟩))
                  obtain ⟨rfl, rfl, rfl⟩ := short_one sh sh2 hv
                  exact e rfl
    · refine iteNN (fun e => l3 (by injection e with e; omega)) (nof fun ⟨T, p, r, e, _⟩ => l3 (len3 e))
theorem ok_rule_errorO (T : Txt mg) (isT : PySem.W.kitOne K (.ref cRule) (.type "tuple") = some false) (I : InsC K cRule) (D : Df K mg "rule_error" s_rule_error ["value"]) (C_told_error : Cal P w K mg base "told_error" ["table", "period", "rise"] 3 (sp_told_error K)) (C_shortest : Cal P w K mg base "shortest" ["table", "period", "rise"] 2 (sp_shortest K)) : Cal P w K mg base "rule_error" ["value"] 4 (sp_rule_errorO cRule) := by
  obtain ⟨f_told_error, fd_told_error, G_told_error, m_told_error, k_told_error, b_told_error⟩ := C_told_error
  obtain ⟨f_shortest, fd_shortest, G_shortest, m_shortest, k_shortest, b_shortest⟩ := C_shortest
  refine D.cal sc_rule_error (fun vs H Q E h => ?_) (fun f cdv A outer s H vs Q E hr h => ?_)
  · obtain ⟨b, dx, fs, rfl, _⟩ := h
    rfl
  obtain ⟨b, dx, fs, rfl, hb, kk⟩ := h
  refine ⟨_, (pss_cons (ps_if (PW.pt (pw_or (pt_not (pt_val (pe_callB call_isi (by rfl) T.n_isinstance (by decide +kernel) (pa_cons (pv 0) (pa_cons (pe_bltn (v := .ty "tuple") (by rfl) T.n_tuple (by decide +kernel) rfl) pa_nil))))) (pw_or (pt_cmpR op_ne (pe_callB call_len_seq (by rfl) T.n_len (by decide +kernel) (pa_cons (pv 0) pa_nil)) pe_int (nomark _)) (pw_or1 (pt_not (pt_val (pe_callB call_isi (by rfl) T.n_isinstance (by decide +kernel) (pa_cons (pe_ix ix_tup (pv 0) pe_int (fun _ _ => rfl)) (pa_cons (pe_bltn (v := .ty "tuple") (by rfl) T.n_tuple (by decide +kernel) rfl) pa_nil))))))))) (pss_one (ps_ret pe_str)) pss_nil)
    (pss_cons (ps_asg (pv 0) (pg_tup (by rfl) (pgs_cons (pg_name (i := 1) sc_rule_error.nd rfl (Or.inl rfl)) (pgs_cons (pg_name (i := 2) sc_rule_error.nd rfl (Or.inl rfl)) (pgs_cons (pg_name (i := 3) sc_rule_error.nd rfl (Or.inl rfl)) pgs_nil)))))
    (pss_cons (ps_set (i := 4) sc_rule_error.nd rfl (Or.inl rfl) (pe_call G_told_error (hr.mono (by decide)) (by rfl) m_told_error k_told_error b_told_error .nil pass0 (pa_cons (pv 1) (pa_cons (pv 2) (pa_cons (pv 3) pa_nil)))))
    (pss_cons (ps_if (pt_cmpR op_notN (pv 4) pe_non (nomark _)) (pss_one (ps_ret (pv 4))) pss_nil)
    (pss_cons (ps_if (pt_cmpR op_lt (pe_callB call_len_seq (by rfl) T.n_len (by decide +kernel) (pa_cons (pe_ix ix_tup (pe_call G_shortest (hr.mono (by decide)) (by rfl) m_shortest k_shortest b_shortest .nil pass0 (pa_cons (pv 1) (pa_cons (pv 2) (pa_cons (pv 3) pa_nil)))) pe_int (fun _ _ => rfl)) pa_nil)) (pe_callB call_len_seq (by rfl) T.n_len (by decide +kernel) (pa_cons (pv 1) pa_nil)) (nomark _)) (pss_one (ps_ret pe_str)) pss_nil)
    (pss_one (ps_ret pe_non))))))), ?_⟩
  exact ⟨_, rfl, _, _, _, _, false, rfl, .ty _, I.ty hb, isT, _, rfl, iteT kk⟩
abbrev s_BadRule_init : Stmt := inClass (topS 9) 0
abbrev N_BadRule_init : List Str := ["self", "error"]
theorem sc_BadRule_init : FnScope N_BadRule_init ["self", "error"] (defScope s_BadRule_init) := ⟨rfl, rfl, rfl, by decide +kernel, rfl, by decide +kernel, by decide +kernel⟩
theorem ok_BadRule_init {fd : FuncData} (F : Fun K "__init__" "BadRule.__init__" s_BadRule_init fB fd) : FnOk P w K mg base CX0 1 fB fd ["self", "error"] (sp_init K "error") := by
  refine F.ok sc_BadRule_init (fun vs H Q E h => ?_) (fun cdv A outer s H vs Q E hr h => ?_)
  · obtain ⟨a, C, v, rfl, _⟩ := h
    rfl
  obtain ⟨a, C, v, rfl, T, no, ha, k⟩ := h
  exact ⟨_, pss_one (ps_ost (pv 0) (pv 1)), _, rfl, _, rfl, a, C, rfl, T, no, .inl ⟨ha, k⟩⟩
abbrev s_canonical : Stmt := topS 14
abbrev N_canonical : List Str := ["table", "period", "rise", "wrong"]
theorem sc_canonical : FnScope N_canonical ["table", "period", "rise"] (defScope s_canonical) := ⟨rfl, rfl, rfl, by decide +kernel, rfl, by decide +kernel, by decide +kernel⟩
theorem ok_canonical (T : Txt mg) (XBadRule : XVal K mg "BadRule" "error" cBadRule fB) (iBadRule : IniF K "BadRule.__init__" "error" s_BadRule_init fB) (D : Df K mg "canonical" s_canonical ["table", "period", "rise"]) (C_told_error : Cal P w K mg base "told_error" ["table", "period", "rise"] 3 (sp_told_error K)) (C_shortest : Cal P w K mg base "shortest" ["table", "period", "rise"] 2 (sp_shortest K)) : CalX P w K mg base "canonical" ["table", "period", "rise"] 4 (sp_canon K cBadRule) := by
  obtain ⟨f_told_error, fd_told_error, G_told_error, m_told_error, k_told_error, b_told_error⟩ := C_told_error
  obtain ⟨f_shortest, fd_shortest, G_shortest, m_shortest, k_shortest, b_shortest⟩ := C_shortest
  obtain ⟨fd9, F9, b_BadRule_init⟩ := iBadRule
  have G_BadRule_init : FnOk P w K mg base CX0 1 fB fd9 ["self", "error"] (sp_init K "error") := ok_BadRule_init F9
  obtain ⟨f, fd, F, mgf, bd⟩ := D
  refine ⟨f, fd, F.okX sc_canonical (fun vs H Q E h => ?_) (fun cdv A outer s H vs Q E hr h => ?_), mgf, F.kp, bd⟩
  · obtain ⟨a, T, p, r, rfl, _⟩ := h
    rfl
  obtain ⟨a, T0, p, r, rfl, hA, tl, rb, kf, ke, kk⟩ := h
  refine ⟨_, (pss_cons (ps_set (i := 3) sc_canonical.nd rfl (Or.inl rfl) (pe_call G_told_error (hr.mono (by decide)) (by rfl) m_told_error k_told_error b_told_error .nil pass0 (pa_cons (pv 0) (pa_cons (pv 1) (pa_cons (pv 2) pa_nil)))))
    (pss_cons (ps_if (pt_cmpR op_notN (pv 3) pe_non (nomark _)) (pss_one (ps_raise rfl (takes_of rfl rfl rfl rfl) (pmk_oex XBadRule.oex XBadRule.iC XBadRule.tI G_BadRule_init (hr.mono (by decide)) b_BadRule_init .nil pass0 (by rfl) XBadRule.g (pa_cons (pv 3) pa_nil)))) pss_nil)
    (pss_one (ps_ret (pe_call G_shortest (hr.mono (by decide)) (by rfl) m_shortest k_shortest b_shortest .nil pass0 (pa_cons (pv 0) (pa_cons (pv 1) (pa_cons (pv 2) pa_nil)))))))), ?_⟩
  have dj : ∀ S : List Int, T0.map PyData.int = S.map PyData.int → T0 = S := fun S e => map_int_inj e
  refine ⟨_, rfl, _, rfl, _, rfl, a, _, T0.map PyData.int, .int p, .int r, .int p, .int r, rfl, hA, dqa_of T0, by rw [List.length_map]; omega, .int _, .int _, fun H' s nf => ?_, fun H' T p r s e1 e2 e3 F nr => ?_, fun H1 T p r s1 e1 e2 e3 F so => ?_⟩
  · refine ⟨_, rfl, rfl, _, rfl, iteNN (fun e => nomatch e) ?_⟩
    refine xc_mk XBadRule.oex XBadRule.no ⟨_, rfl, V.str "form", rfl, fun y H7 s7 hy => kf (fun F => nf ⟨T0, p, r, rfl, rfl, rfl, F⟩) H7 y (s.trans s7) hy⟩ (fun h z => ?_)
    obtain ⟨v, e, q⟩ := z
    exact ⟨v, e, h _ _ q⟩
  · obtain rfl := dj _ e1
    cases e2
    cases e3
    refine ⟨_, rfl, rfl, _, rfl, iteNN (fun e => nomatch e) ?_⟩
    refine xc_mk XBadRule.oex XBadRule.no ⟨_, rfl, V.str "falls", rfl, fun y H7 s7 hy => ke F nr H7 y (s.trans s7) hy⟩ (fun h z => ?_)
    obtain ⟨v, e, q⟩ := z
    exact ⟨v, e, h _ _ q⟩
  · obtain rfl := dj _ e1
    cases e2
    cases e3
    have kk := kk F so
    have rb := rb so
    obtain ⟨n, rfl⟩ : ∃ n : Nat, p = (n : Int) := ⟨p.toNat, by have := F.1; omega⟩
    rw [Int.toNat_natCast] at so kk rb
    refine ⟨_, rfl, rfl, _, rfl, iteNP rfl ?_⟩
    refine ⟨_, rfl, _, rfl, _, rfl, a, T0, n, r, rfl, hA.same s1, so, rb, fun H2 d' T' p' r' s2 R' c' sh hv => ?_⟩
    exact kk H2 d' T' p' r' (s1.trans s2) R' sh hv (short_rep sh so hv).1
end
end Sm

set_option Elab.async false
set_option linter.all false
set_option maxRecDepth 100000
set_option maxHeartbeats 16000000
namespace Sm
open PySem PySem.Spec PyProof.Rows L2
open C8 (pss_cut tCut)
/-! ### texts of ints -/
def itx (T : List Int) : List Str := T.map fun i => toString i
def spT (T : List Int) : Str := Txt.join " " (itx T)
def ruT (T : List Int) (p : Nat) (r : Int) : Str := (((spT T ++ (" | " : Str)) ++ toString (p : Int)) ++ (" " : Str)) ++ toString r
def SmI (T : List Int) : Prop := T.length ≤ 60 ∧ ∀ i, i < T.length → 0 ≤ T.getD i 0 ∧ T.getD i 0 ≤ 1000000000000000
def sp_spaced (_ : PySem.W.Frag) : Sp := fun vs H Q _ => ∃ (t : Addr) (T : List Int), vs = [.ref t] ∧ H t = some (.tup (T.map V.int)) ∧ SmI T ∧ ∀ H', Same H H' → Q (.str (spT T)) H'
theorem small_log {i : Int} (h0 : 0 ≤ i) (h1 : i ≤ 1000000000000000) : i.natAbs.log2 < 1920 :=
  Nat.lt_of_lt_of_le (PySem.Flt.log2_lt_of (k := 310) (by decide) (by omega)) (by decide)
theorem itx_get {T : List Int} {i : Nat} (h : i < T.length) : (itx T)[i]? = some (toString (T.getD i 0)) := by
  unfold itx
  rw [List.getElem?_map, List.getElem?_eq_getElem h, List.getD_eq_getElem?_getD, List.getElem?_eq_getElem h]
  rfl
theorem itx_len {T : List Int} (h : ∀ i, i < T.length → 0 ≤ T.getD i 0 ∧ T.getD i 0 ≤ 1000000000000000) : ((itx T).map (·.length)).sum ≤ 1930 * T.length := by
  induction T with
  | nil => exact Nat.le_refl _
  | cons t T ih =>
    have a := h 0 (Nat.zero_lt_succ _)
    have a : 0 ≤ t ∧ t ≤ 1000000000000000 := a
    have b := PyProof.Rows.int_text_len_1921 (small_log a.1 a.2)
    have c := ih fun i hi => h (i + 1) (Nat.succ_lt_succ hi)
    unfold itx at c ⊢
    simp only [List.map_cons, List.sum_cons, List.length_cons]
    omega
/-! ### rules as objects -/
def RuleO (cRule : Addr) (H : Hp) (a : Addr) (T : List Int) (p : Nat) (r : Int) : Prop := ∃ dx d t : Addr, H a = some (.ins cRule dx [(("value" : Str), .ref d), (("table" : Str), .ref t), (("period" : Str), .int (p : Int)), (("rise" : Str), .int r)]) ∧ H d = some (.tup [.ref t, .int (p : Int), .int r]) ∧ H t = some (.tup (T.map V.int))
theorem RuleO.same {cRule : Addr} {H H' : Hp} {a : Addr} {T : List Int} {p : Nat} {r : Int} (h : RuleO cRule H a T p r) (s : Same H H') : RuleO cRule H' a T p r := by
  obtain ⟨dx, d, t, h1, h2, h3⟩ := h
  exact ⟨dx, d, t, s _ _ h1, s _ _ h2, s _ _ h3⟩
structure TxR (K : PySem.W.Frag) (mg : Str → Option Value) (cRule fRi fEq fLen fIt fStr fCa fOf pOf : Addr) : Prop where
  g : mg "Rule" = some (.ref cRule)
  ins : InsC K cRule
  mak : Mk K cRule fRi
  naV : NoAttr K cRule "value"
  naT : NoAttr K cRule "table"
  naP : NoAttr K cRule "period"
  naR : NoAttr K cRule "rise"
  is : PySem.W.kitOne K (.ref cRule) (.ref cRule) = some true
  mEq : Spm K cRule "__eq__" fEq
  mLen : Spm K cRule "__len__" fLen
  mIt : Spm K cRule "__iter__" fIt
  mStr : Spm K cRule "__str__" fStr
  mCa : Spm K cRule "__call__" fCa
  fiCa : PySem.W.fnIn K fCa = true
  rd : ClX.CRead K cRule (.type "type")
  cm : ClX.CMet K cRule (.type "type") "of" pOf fOf
  isT : PySem.W.kitOne K (.ref cRule) (.type "tuple") = some false
  tIs : PySem.W.kitOne K (.type "tuple") (.ref cRule) = some false
  subT : PySem.W.subIn K (.type "tuple") (.ref cRule) = some false
  an : PySem.W.findIn K (.ref cRule) "__ne__" = some (some (.builtin "object.__ne__"))
  mo : PySem.W.mroIn K cRule (.type "object") = some true
def sp_Rinit (K : PySem.W.Frag) (cRule cB : Addr) : Sp := fun vs H Q E => ∃ (a dx : Addr) (v : V) (d : PyData), vs = [.ref a, v] ∧ H a = some (.ins cRule dx []) ∧ Dq K H v d ∧ Bd d ∧
  (∀ w H' y, Same H H' → Vd d (.str w) → H' y = some (.xd [(("error" : Str), .str w)]) → E (.ref cB) (some y) H') ∧
  (∀ T p r, d = ruD T p r → Short T p r → ∀ H', (∀ b o, b ≠ a → H b = some o → H' b = some o) → RuleO cRule H' a T p r → Q .non H')
def sp_RinitO (cRule cB : Addr) : Sp := fun vs H Q E => ∃ (a dx b dy : Addr) (gs : List (Str × V)), vs = [.ref a, .ref b] ∧ H a = some (.ins cRule dx []) ∧ H b = some (.ins cRule dy gs) ∧
  (∀ H' y, Same H H' → H' y = some (.xd [(("error" : Str), .str "form")]) → E (.ref cB) (some y) H')
def sp_Rinit0 (K : PySem.W.Frag) (cRule : Addr) : Sp := fun vs H Q _ => ∃ (a dx d : Addr) (T : List Int) (p : Nat) (r : Int), vs = [.ref a, .ref d] ∧ H a = some (.ins cRule dx []) ∧ RuleAt H d T p r ∧ Short T p r ∧ RB T p r ∧ T.length ≤ 5000 ∧
  ∀ H', (∀ b o, b ≠ a → H b = some o → H' b = some o) → RuleO cRule H' a T p r → Q .non H'
def sp_Req (cRule : Addr) : Sp := fun vs H Q _ => ∃ (a b : Addr) (T1 T2 : List Int) (p1 p2 : Nat) (r1 r2 : Int), vs = [.ref a, .ref b] ∧ RuleO cRule H a T1 p1 r1 ∧ RuleO cRule H b T2 p2 r2 ∧ Q (.bl (decide (T1 = T2 ∧ p1 = p2 ∧ r1 = r2))) H
def sp_ReqT (K : PySem.W.Frag) (cRule : Addr) : Sp := fun vs H Q _ => ∃ (a : Addr) (v : V) (ds : List PyData) (T : List Int) (p : Nat) (r : Int), vs = [.ref a, v] ∧ RuleO cRule H a T p r ∧ Dq K H v (.tuple ds) ∧ Q (.bl false) H
def sp_Rlen (cRule : Addr) : Sp := fun vs H Q _ => ∃ (a : Addr) (T : List Int) (p : Nat) (r : Int), vs = [.ref a] ∧ RuleO cRule H a T p r ∧ Q (.int (T.length : Nat)) H
def sp_Rit (cRule : Addr) : Sp := fun vs H Q _ => ∃ (a dx d t : Addr) (T : List Int) (p : Nat) (r : Int), vs = [.ref a] ∧ H a = some (.ins cRule dx [(("value" : Str), .ref d), (("table" : Str), .ref t), (("period" : Str), .int (p : Int)), (("rise" : Str), .int r)]) ∧ H t = some (.tup (T.map V.int)) ∧ ∀ it, H it = none → Q (.ref it) (upd H it (ItT t it 0))
def sp_Rstr (cRule : Addr) : Sp := fun vs H Q _ => ∃ (a : Addr) (T : List Int) (p : Nat) (r : Int), vs = [.ref a] ∧ RuleO cRule H a T p r ∧ SmI T ∧ (p : Int) ≤ 60 ∧ 0 ≤ r ∧ r ≤ 1000000000000000 ∧ ∀ H', Same H H' → Q (.str (ruT T p r)) H'
def sp_Rcall (K : PySem.W.Frag) (cRule cN : Addr) : Sp := fun vs H Q E => ∃ (a : Addr) (v : V) (dv : PyData) (T : List Int) (p : Nat) (r : Int), vs = [.ref a, v] ∧ RuleO cRule H a T p r ∧ RuleOk T p r ∧ RB T p r ∧ Dq K H v dv ∧
  (∀ x : Nat, dv = .int (x : Int) → Q (.int (vl T p r x)) H) ∧ (amB dv = false → ∀ H' y, Same H H' → H' y = some (.xd [(("value" : Str), v)]) → E (.ref cN) (some y) H')
def sp_Rof (cRule cB : Addr) : Sp := fun vs H Q E => ∃ (a : Addr) (T : List Int) (p r : Int), vs = [.ref cRule, .ref a, .int p, .int r] ∧ SA H a (T.map V.int) ∧ T.length ≤ 5000 ∧ (∀ T' p' r', Short T' p' r' → (∀ x, vl T' p' r' x = vl T p.toNat r x) → T'.length ≤ T.length → RuleOk T p.toNat r → RB T' p' r') ∧ (RuleOk T p.toNat r → RB T p.toNat r) ∧
  (¬ FormOk T p r → ∀ H' y, Same H H' → H' y = some (.xd [(("error" : Str), .str "form")]) → E (.ref cB) (some y) H') ∧
  (FormOk T p r → ¬ RuleOk T p.toNat r → ∀ H' y, Same H H' → H' y = some (.xd [(("error" : Str), .str "falls")]) → E (.ref cB) (some y) H') ∧
  (FormOk T p r → RuleOk T p.toNat r → ∀ H' q T' p' r', Same H H' → RuleO cRule H' q T' p' r' → Short T' p' r' → (∀ x, vl T' p' r' x = vl T p.toNat r x) → T'.length ≤ T.length → Q (.ref q) H')
theorem ruD_eqv {T1 T2 : List Int} {p1 p2 : Nat} {r1 r2 : Int} : PyData.eqv (ruD T1 p1 r1) (ruD T2 p2 r2) = decide (T1 = T2 ∧ p1 = p2 ∧ r1 = r2) := by
  simp only [ruD, PyData.eqv, PyData.eqvAll, ints_eqvAll, Bool.and_true]
  by_cases h1 : T1 = T2
  · by_cases h2 : p1 = p2
    · by_cases h3 : r1 = r2
      · simp [h1, h2, h3]
      · simp [h1, h2, h3]
    · have : ¬ ((p1 : Int) = (p2 : Int)) := by omega
      simp [h1, h2, this]
  · simp [h1]
theorem join_le0 (s : Str) : ∀ ys : List Str, (PySem.Str.join s ys).length ≤ (ys.map (·.length)).sum + ys.length * s.length
  | [] => Nat.zero_le _
  | [y] => by
    show y.length ≤ _
    simp
  | y :: z :: ys => by
    have ih := join_le0 s (z :: ys)
    show (y ++ s ++ PySem.Str.join s (z :: ys)).length ≤ _
    rw [PySem.Str.length_append, PySem.Str.length_append, List.map_cons, List.sum_cons, List.length_cons, Nat.succ_mul]
    omega
theorem join_le (s : Str) (ys : List Str) : (Txt.join s ys).length ≤ (ys.map (·.length)).sum + ys.length * s.length := by
  rw [show Txt.join s ys = PySem.Str.join s ys from StrLaws.glued_eq_join s ys]
  exact join_le0 s ys
theorem spT_len {T : List Int} (h : SmI T) : (spT T).length ≤ 200000 := by
  have a := join_le " " (itx T)
  have b := itx_len h.2
  have c : (itx T).length = T.length := by unfold itx; rw [List.length_map]
  have d := h.1
  have e : ((" " : Str)).length = 1 := rfl
  rw [c, e] at a
  show (Txt.join " " (itx T)).length ≤ _
  omega
section
variable {P : Program} {w : World} {K : PySem.W.Frag} {mg : Str → Option Value} {base : Heap} {cBadRule cNoAmount fB fN cRule fRi fEq fLen fIt fStr fCa fOf pOf : Addr}
abbrev s_spaced : Stmt := topS 37
abbrev N_spaced : List Str := ["items", "item"]
theorem sc_spaced : FnScope N_spaced ["items"] (defScope s_spaced) := ⟨rfl, rfl, rfl, by decide +kernel, rfl, by decide +kernel, by decide +kernel⟩
theorem ok_spaced (T : Txt mg) (D : Df K mg "spaced" s_spaced ["items"]) : Cal P w K mg base "spaced" ["items"] 1 (sp_spaced K) := by
  refine D.cal sc_spaced (fun vs H Q E h => ?_) (fun f cdv A outer s H vs Q E hr h => ?_)
  · obtain ⟨t, T0, rfl, _⟩ := h
    rfl
  obtain ⟨t, T0, rfl, ht, sm, kk⟩ := h
  have lm : (T0.map V.int).length = T0.length := List.length_map ..
  have tl := sm.1
  refine ⟨_, (pss_one (ps_ret (pe_join pe_str (pe_lc (own := [("item", 1)]) (g := gName 1) (tt := tYes) rfl sc_spaced.nd (pi_tup (pv 0)) (blkOk_by (own := [("item", 1)]) (N := N_spaced) (sc := defScope s_spaced) (by decide +kernel)) (fun _ _ _ _ _ => pg_name (i := 1) sc_spaced.nd rfl (Or.inl rfl)) (fun _ _ _ _ _ => pts_nil) (fun _ _ _ _ _ => (pe_callTy call_str_int (by rfl) T.n_str (by decide +kernel) (pa_cons (pv 1) pa_nil))))))), ?_⟩
  refine ⟨⟨_, rfl⟩, _, rfl, t, rfl, ⟨_, SqT.of ht⟩, fun U nU => ?_⟩
  refine lc_mT (fun i => .str (toString (T0.getD i 0))) ht nU (by omega) ?_ gName_mono ?_
  · intro i x H' hx s' R' hR
    have hi : i < T0.length := by
      have := (List.getElem?_eq_some_iff.mp hx).1
      rwa [lm] at this
    rw [get_int hi] at hx
    have hx := (Option.some.inj hx).symm
    subst hx
    have b := sm.2 i hi
    exact ⟨rfl, _, rfl, _, rfl, small_log b.1 b.2, hR H' (Same.refl _)⟩
  intro H1 s1 hU
  have hU : H1 U = some (.lst ((itx T0).map V.str)) := by
    rw [hU, lm]
    congr 2
    refine List.ext_getElem? fun i => ?_
    by_cases hi : i < T0.length
    · rw [List.getElem?_map, List.getElem?_map, List.getElem?_range hi, itx_get hi]
      rfl
    · rw [List.getElem?_eq_none (by rw [List.length_map, List.length_range]; omega), List.getElem?_eq_none (by unfold itx; rw [List.length_map, List.length_map]; omega)]
  have b := itx_len sm.2
  have c : (itx T0).length = T0.length := by unfold itx; rw [List.length_map]
  have e : ((" " : Str)).length = 1 := rfl
  exact ⟨_, U, itx T0, rfl, rfl, .inl (SqL.of hU), by rw [c, e]; omega, kk H1 s1⟩
abbrev s_Rule_len : Stmt := inClass (topS 39) 3
abbrev N_Rule_len : List Str := ["self"]
theorem sc_Rule_len : FnScope N_Rule_len ["self"] (defScope s_Rule_len) := ⟨rfl, rfl, rfl, by decide +kernel, rfl, by decide +kernel, by decide +kernel⟩
theorem ok_Rlen {fd : FuncData} (T : Txt mg) (R : TxR K mg cRule fRi fEq fLen fIt fStr fCa fOf pOf) (F : Fun K "__len__" "Rule.__len__" s_Rule_len fLen fd) : FnOk P w K mg base CX0 1 fLen fd ["self"] (sp_Rlen cRule) := by
  refine F.ok sc_Rule_len (fun vs H Q E h => ?_) (fun cdv A outer s H vs Q E hr h => ?_)
  · obtain ⟨a, T0, p, r, rfl, _⟩ := h
    rfl
  obtain ⟨a, T0, p, r, rfl, ⟨dx, d, t, ha, hd, ht⟩, kk⟩ := h
  have lm : (T0.map V.int).length = T0.length := List.length_map ..
  refine ⟨_, (pss_one (ps_ret (pe_callB call_len_seq (by rfl) T.n_len (by decide +kernel) (pa_cons (pe_fld (pv 0) rfl) pa_nil)))), ?_⟩
  exact ⟨_, rfl, a, cRule, dx, _, _, rfl, ha, R.ins.cl, R.naT, rfl, t, _, rfl, .inr (SqT.of ht), by rw [lm]; exact kk⟩
abbrev s_Rule_iter : Stmt := inClass (topS 39) 4
abbrev N_Rule_iter : List Str := ["self"]
theorem sc_Rule_iter : FnScope N_Rule_iter ["self"] (defScope s_Rule_iter) := ⟨rfl, rfl, rfl, by decide +kernel, rfl, by decide +kernel, by decide +kernel⟩
theorem ok_Rit {fd : FuncData} (T : Txt mg) (R : TxR K mg cRule fRi fEq fLen fIt fStr fCa fOf pOf) (F : Fun K "__iter__" "Rule.__iter__" s_Rule_iter fIt fd) : FnOk P w K mg base CX0 1 fIt fd ["self"] (sp_Rit cRule) := by
  refine F.ok sc_Rule_iter (fun vs H Q E h => ?_) (fun cdv A outer s H vs Q E hr h => ?_)
  · obtain ⟨a, dx, d, t, T0, p, r, rfl, _⟩ := h
    rfl
  obtain ⟨a, dx, d, t, T0, p, r, rfl, ha, ht, kk⟩ := h
  refine ⟨_, (pss_one (ps_ret (pe_callB call_iterT (by rfl) T.n_iter (by decide +kernel) (pa_cons (pe_fld (pv 0) rfl) pa_nil)))), ?_⟩
  exact ⟨_, rfl, a, cRule, dx, _, _, rfl, ha, R.ins.cl, R.naT, rfl, t, _, rfl, SqT.of ht, kk⟩
abbrev s_Rule_str : Stmt := inClass (topS 39) 5
abbrev N_Rule_str : List Str := ["self"]
theorem sc_Rule_str : FnScope N_Rule_str ["self"] (defScope s_Rule_str) := ⟨rfl, rfl, rfl, by decide +kernel, rfl, by decide +kernel, by decide +kernel⟩
theorem ok_Rstr {fd : FuncData} (T : Txt mg) (R : TxR K mg cRule fRi fEq fLen fIt fStr fCa fOf pOf) (C_spaced : Cal P w K mg base "spaced" ["items"] 1 (sp_spaced K)) (F : Fun K "__str__" "Rule.__str__" s_Rule_str fStr fd) : FnOk P w K mg base CX0 2 fStr fd ["self"] (sp_Rstr cRule) := by
  obtain ⟨f_spaced, fd_spaced, G_spaced, m_spaced, k_spaced, b_spaced⟩ := C_spaced
  refine F.ok sc_Rule_str (fun vs H Q E h => ?_) (fun cdv A outer s H vs Q E hr h => ?_)
  · obtain ⟨a, T0, p, r, rfl, _⟩ := h
    rfl
  obtain ⟨a, T0, p, r, rfl, ⟨dx, d, t, ha, hd, ht⟩, sm, p1, r0, r1, kk⟩ := h
  have sl := spT_len sm
  have pl := PyProof.Rows.int_text_len_1921 (small_log (i := (p : Int)) (by omega) (by omega))
  have rl := PyProof.Rows.int_text_len_1921 (small_log r0 r1)
  have big : 300000 ≤ sizeLine := by decide
  refine ⟨_, (pss_one (ps_ret (pe_joined (.cons (pe_fmt (pe_call G_spaced (hr.mono (by decide)) (by rfl) m_spaced k_spaced b_spaced .nil pass0 (pa_cons (pe_fld (pv 0) rfl) pa_nil))) (.cons pe_str (.cons (pe_fmt (pe_fld (pv 0) rfl)) (.cons pe_str (.cons (pe_fmt (pe_fld (pv 0) rfl)) .nil)))))))), ?_⟩
  refine ⟨_, rfl, a, cRule, dx, _, _, rfl, ha, R.ins.cl, R.naT, rfl, t, T0, rfl, ht, sm, fun H1 s1 => ?_⟩
  have b1 : (Str.empty ++ spT T0).length ≤ 200000 := by rw [PySem.Str.empty_append]; exact sl
  have b2 : (Str.empty ++ spT T0 ++ (" | " : Str)).length ≤ 200003 := by
    rw [PySem.Str.length_append]
    have : ((" | " : Str)).length = 3 := rfl
    omega
  have b3 : (Str.empty ++ spT T0 ++ (" | " : Str) ++ (toString (p : Int) : Str)).length ≤ 210000 := by
    rw [PySem.Str.length_append]
    omega
  have b4 : (Str.empty ++ spT T0 ++ (" | " : Str) ++ (toString (p : Int) : Str) ++ (" " : Str)).length ≤ 210001 := by
    rw [PySem.Str.length_append]
    have : ((" " : Str)).length = 1 := rfl
    omega
  have b5 : (Str.empty ++ spT T0 ++ (" | " : Str) ++ (toString (p : Int) : Str) ++ (" " : Str) ++ (toString r : Str)).length ≤ 220000 := by
    rw [PySem.Str.length_append]
    omega
  refine .inl ⟨_, rfl, by omega, _, rfl, by omega, ?_⟩
  refine ⟨_, rfl, by omega, ?_⟩
  refine ⟨_, rfl, a, cRule, dx, _, _, rfl, s1 _ _ ha, R.ins.cl, R.naP, rfl, .inr ⟨_, rfl, small_log (by omega) (by omega), _, rfl, by omega, ?_⟩⟩
  refine ⟨_, rfl, by omega, ?_⟩
  refine ⟨_, rfl, a, cRule, dx, _, _, rfl, s1 _ _ ha, R.ins.cl, R.naR, rfl, .inr ⟨_, rfl, small_log r0 r1, _, rfl, by omega, ?_⟩⟩
  rw [PySem.Str.empty_append]
  exact kk H1 s1
end
end Sm

set_option Elab.async false
set_option linter.all false
set_option maxRecDepth 100000
set_option maxHeartbeats 16000000
namespace Sm
open PySem PySem.Spec PyProof.Rows L2
open C8 (pss_cut tCut)
section
variable {P : Program} {w : World} {K : PySem.W.Frag} {mg : Str → Option Value} {base : Heap} {cBadRule cNoAmount fB fN cRule fRi fEq fLen fIt fStr fCa fOf pOf : Addr}
abbrev s_Rule_init : Stmt := inClass (topS 39) 0
abbrev N_Rule_init : List Str := ["self", "value", "wrong"]
theorem sc_Rule_init : FnScope N_Rule_init ["self", "value"] (defScope s_Rule_init) := ⟨rfl, rfl, rfl, by decide +kernel, rfl, by decide +kernel, by decide +kernel⟩
theorem ok_Rinit {fd : FuncData} (T : Txt mg) (R : TxR K mg cRule fRi fEq fLen fIt fStr fCa fOf pOf) (XBadRule : XVal K mg "BadRule" "error" cBadRule fB) (iBadRule : IniF K "BadRule.__init__" "error" s_BadRule_init fB) (C_rule_error : Cal P w K mg base "rule_error" ["value"] 4 (sp_rule_error K)) (F : Fun K "__init__" "Rule.__init__" s_Rule_init fRi fd) : FnOk P w K mg base (L2.CX P w) 5 fRi fd ["self", "value"] (sp_Rinit K cRule cBadRule) := by
  obtain ⟨f_rule_error, fd_rule_error, G_rule_error, m_rule_error, k_rule_error, b_rule_error⟩ := C_rule_error
  obtain ⟨fd9, F9, b_BadRule_init⟩ := iBadRule
  have G_BadRule_init : FnOk P w K mg base CX0 1 fB fd9 ["self", "error"] (sp_init K "error") := ok_BadRule_init F9
  refine F.okX sc_Rule_init (fun vs H Q E h => ?_) (fun cdv A outer s H vs Q E hr h => ?_)
  · obtain ⟨a, dx, v, d, rfl, _⟩ := h
    rfl
  obtain ⟨a, dx, v, d0, rfl, ha, hD, bd, ke, kk⟩ := h
  refine ⟨_, (pss_cons (ps_set (i := 2) sc_Rule_init.nd rfl (Or.inl rfl) (pe_call G_rule_error (hr.mono (by decide)) (by rfl) m_rule_error k_rule_error b_rule_error .nil pass0 (pa_cons (pv 1) pa_nil)))
    (pss_cons (ps_if (pt_cmpR op_notN (pv 2) pe_non (nomark _)) (pss_one (ps_raise rfl (takes_of rfl rfl rfl rfl) (pmk_oex XBadRule.oex XBadRule.iC XBadRule.tI G_BadRule_init (hr.mono (by decide)) b_BadRule_init .nil pass0 (by rfl) XBadRule.g (pa_cons (pv 2) pa_nil)))) pss_nil)
    (pss_cons (ps_fld (pv 0) (pv 1) rfl)
    (pss_one (ps_asg (pv 1) (pg_tup (by rfl) (pgs_cons (pg_fld (pv 0)) (pgs_cons (pg_fld (pv 0)) (pgs_cons (pg_fld (pv 0)) pgs_nil))))))))), ?_⟩
  refine ⟨_, rfl, v, d0, rfl, hD, bd, fun w H1 s1 vd => ?_⟩
  have bad : ∀ x : Str, w = .str x → Vd d0 (.str x) := fun x e => by rw [← e]; exact vd
  rcases vd with ⟨_, rfl⟩ | ⟨T0, p, r, rfl, _, ⟨_, rfl⟩ | ⟨o, ⟨_, rfl⟩ | ⟨sh, rfl⟩⟩⟩
  · refine ⟨_, rfl, rfl, _, rfl, iteNN (fun e => nomatch e) ?_⟩
    refine xc_mk XBadRule.oex XBadRule.no ⟨_, rfl, _, rfl, fun y H7 s7 hy => ke _ H7 y (s1.trans s7) (bad _ rfl) hy⟩ (fun h z => ?_)
    obtain ⟨v, e, q⟩ := z
    exact ⟨v, e, h _ _ q⟩
  · refine ⟨_, rfl, rfl, _, rfl, iteNN (fun e => nomatch e) ?_⟩
    refine xc_mk XBadRule.oex XBadRule.no ⟨_, rfl, _, rfl, fun y H7 s7 hy => ke _ H7 y (s1.trans s7) (bad _ rfl) hy⟩ (fun h z => ?_)
    obtain ⟨v, e, q⟩ := z
    exact ⟨v, e, h _ _ q⟩
  · refine ⟨_, rfl, rfl, _, rfl, iteNN (fun e => nomatch e) ?_⟩
    refine xc_mk XBadRule.oex XBadRule.no ⟨_, rfl, _, rfl, fun y H7 s7 hy => ke _ H7 y (s1.trans s7) (bad _ rfl) hy⟩ (fun h z => ?_)
    obtain ⟨v, e, q⟩ := z
    exact ⟨v, e, h _ _ q⟩
  · obtain ⟨d, rfl, t, hd, ht⟩ := dq_inv hD
    refine ⟨_, rfl, rfl, _, rfl, iteNP rfl ?_⟩
    refine ⟨_, rfl, _, rfl, a, cRule, dx, _, rfl, s1 _ _ ha, R.ins.cl, R.naV, by decide, ?_⟩
    have da : d ≠ a := fun e => by rw [e, ha] at hd; cases hd
    have ta : t ≠ a := fun e => by rw [e, ha] at ht; cases ht
    have hd1 := s1 _ _ hd
    have ht1 := s1 _ _ ht
    refine ⟨_, rfl, d, _, rfl, SqT.of (by rw [upd_ne da]; exact hd1), rfl, _, _, rfl, _, rfl, a, cRule, dx, _, rfl, upd_same, R.ins.cl, R.naT, by show 1 < 1000; decide, ?_⟩
    refine ⟨_, _, rfl, _, rfl, a, cRule, dx, _, rfl, upd_same, R.ins.cl, R.naP, by show 2 < 1000; decide, _, _, rfl, _, rfl, a, cRule, dx, _, rfl, upd_same, R.ins.cl, R.naR, by show 3 < 1000; decide, rfl, ?_⟩
    have nb : ∀ b o, b ≠ a → H b = some o → upd (upd (upd (upd H1 a (HO.ins cRule dx (putF "value" (V.ref d) []))) a (HO.ins cRule dx (putF "table" (V.ref t) (putF "value" (V.ref d) [])))) a (HO.ins cRule dx (putF "period" (V.int (p : Int)) (putF "table" (V.ref t) (putF "value" (V.ref d) []))))) a (HO.ins cRule dx (putF "rise" (V.int r) (putF "period" (V.int (p : Int)) (putF "table" (V.ref t) (putF "value" (V.ref d) []))))) b = some o := fun b o n hb => by
      rw [upd_ne n, upd_ne n, upd_ne n, upd_ne n]
      exact s1 _ _ hb
    exact kk T0 p r rfl sh _ nb ⟨dx, d, t, upd_same, nb d _ da hd, nb t _ ta ht⟩
theorem ok_RinitO {fd : FuncData} (T : Txt mg) (R : TxR K mg cRule fRi fEq fLen fIt fStr fCa fOf pOf) (XBadRule : XVal K mg "BadRule" "error" cBadRule fB) (iBadRule : IniF K "BadRule.__init__" "error" s_BadRule_init fB) (C_rule_error : Cal P w K mg base "rule_error" ["value"] 4 (sp_rule_errorO cRule)) (F : Fun K "__init__" "Rule.__init__" s_Rule_init fRi fd) : FnOk P w K mg base (L2.CX P w) 5 fRi fd ["self", "value"] (sp_RinitO cRule cBadRule) := by
  obtain ⟨f_rule_error, fd_rule_error, G_rule_error, m_rule_error, k_rule_error, b_rule_error⟩ := C_rule_error
  obtain ⟨fd9, F9, b_BadRule_init⟩ := iBadRule
  have G_BadRule_init : FnOk P w K mg base CX0 1 fB fd9 ["self", "error"] (sp_init K "error") := ok_BadRule_init F9
  refine F.okX sc_Rule_init (fun vs H Q E h => ?_) (fun cdv A outer s H vs Q E hr h => ?_)
  · obtain ⟨a, dx, b, dy, gs, rfl, _⟩ := h
    rfl
  obtain ⟨a, dx, b, dy, gs, rfl, ha, hb, ke⟩ := h
  refine ⟨_, (pss_cons (ps_set (i := 2) sc_Rule_init.nd rfl (Or.inl rfl) (pe_call G_rule_error (hr.mono (by decide)) (by rfl) m_rule_error k_rule_error b_rule_error .nil pass0 (pa_cons (pv 1) pa_nil)))
    (pss_cons (ps_if (pt_cmpR op_notN (pv 2) pe_non (nomark _)) (pss_one (ps_raise rfl (takes_of rfl rfl rfl rfl) (pmk_oex XBadRule.oex XBadRule.iC XBadRule.tI G_BadRule_init (hr.mono (by decide)) b_BadRule_init .nil pass0 (by rfl) XBadRule.g (pa_cons (pv 2) pa_nil)))) pss_nil)
    (pss_cons (ps_fld (pv 0) (pv 1) rfl)
    (pss_one (ps_asg (pv 1) (pg_tup (by rfl) (pgs_cons (pg_fld (pv 0)) (pgs_cons (pg_fld (pv 0)) (pgs_cons (pg_fld (pv 0)) pgs_nil))))))))), ?_⟩
  refine ⟨_, rfl, b, dy, gs, rfl, hb, ?_⟩
  refine ⟨_, rfl, rfl, _, rfl, iteNN (fun e => nomatch e) ?_⟩
  refine xc_mk XBadRule.oex XBadRule.no ⟨_, rfl, _, rfl, fun y H7 s7 hy => ke H7 y s7 hy⟩ (fun h z => ?_)
  obtain ⟨v, e, q⟩ := z
  exact ⟨v, e, h _ _ q⟩
theorem bd_of {T : List Int} {p : Nat} {r : Int} (b : RB T p r) (l : T.length ≤ 5000) : Bd (ruD T p r) := by
  constructor
  · intro ds dp dr e
    unfold ruD at e
    injection e with e
    injection e with e _
    injection e with e
    rw [← e, List.length_map]
    exact l
  · intro T' p' r' e _
    unfold ruD at e
    injection e with e
    injection e with e1 e
    injection e with e2 e
    injection e with e3 e
    injection e1 with e1
    injection e2 with e2
    injection e3 with e3
    obtain rfl := map_int_inj e1
    obtain rfl : p = p' := by omega
    subst e3
    exact b
theorem ruD_inj {T T' : List Int} {p p' : Nat} {r r' : Int} (e : ruD T p r = ruD T' p' r') : T = T' ∧ p = p' ∧ r = r' := by
  unfold ruD at e
  injection e with e
  injection e with e1 e
  injection e with e2 e
  injection e with e3 e
  injection e1 with e1
  injection e2 with e2
  injection e3 with e3
  exact ⟨map_int_inj e1, by omega, e3⟩
theorem vd_short {T : List Int} {p : Nat} {r : Int} {w : V} (sh : Short T p r) (h : Vd (ruD T p r) w) : w = .non := by
  have o := sh.ok
  rcases h with ⟨nf, _⟩ | ⟨T', p', r', e, _, ⟨no, _⟩ | ⟨_, ⟨ns, _⟩ | ⟨_, rfl⟩⟩⟩
  · exact absurd ⟨T, p, r, rfl, by have := o.p0; omega, by have := o.p1; omega, o.r0, o.nn⟩ nf
  · obtain ⟨rfl, rfl, rfl⟩ := ruD_inj e
    exact absurd o no
  · obtain ⟨rfl, rfl, rfl⟩ := ruD_inj e
    exact absurd sh ns
  · rfl
theorem ok_Rinit0 {fd : FuncData} (F : FnOk P w K mg base (L2.CX P w) 5 fRi fd ["self", "value"] (sp_Rinit K cRule cBadRule)) : FnOk P w K mg base CX0 5 fRi fd ["self", "value"] (sp_Rinit0 K cRule) := by
  refine no_raise F fun vs H Q E h => ?_
  obtain ⟨a, dx, d, T0, p, r, rfl, ha, RA, sh, b, l5, kk⟩ := h
  refine ⟨a, dx, _, _, rfl, ha, dq_rule RA, bd_of b l5, fun w H' y _ vd _ => ?_, fun T' p' r' e _ H' keep O => ?_⟩
  · exact nomatch vd_short sh vd
  · obtain ⟨rfl, rfl, rfl⟩ := ruD_inj e
    exact kk H' keep O
abbrev s_Rule_eq : Stmt := inClass (topS 39) 2
abbrev N_Rule_eq : List Str := ["self", "other"]
theorem sc_Rule_eq : FnScope N_Rule_eq ["self", "other"] (defScope s_Rule_eq) := ⟨rfl, rfl, rfl, by decide +kernel, rfl, by decide +kernel, by decide +kernel⟩
theorem ok_Req {fd : FuncData} (T : Txt mg) (R : TxR K mg cRule fRi fEq fLen fIt fStr fCa fOf pOf) (F : Fun K "__eq__" "Rule.__eq__" s_Rule_eq fEq fd) : FnOk P w K mg base CX0 1 fEq fd ["self", "other"] (sp_Req cRule) := by
  have g_Rule := R.g
  refine F.ok sc_Rule_eq (fun vs H Q E h => ?_) (fun cdv A outer s H vs Q E hr h => ?_)
  · obtain ⟨a, b, _, _, _, _, _, _, rfl, _⟩ := h
    rfl
  obtain ⟨a, b, T1, T2, p1, p2, r1, r2, rfl, ⟨dx, d, t, ha, hd, ht⟩, ⟨dy, e, u, hb, he, hu⟩, kk⟩ := h
  refine ⟨_, (pss_one (ps_ret (pe_and (pe_callB call_isi (by rfl) T.n_isinstance (by decide +kernel) (pa_cons (pv 1) (pa_cons (pe_glob (v := .ref cRule) rfl g_Rule rfl) pa_nil))) (pe_one (pe_cmpR (op_eqD hr.units) (pe_fld (pv 0) rfl) (pe_fld (pv 1) rfl) (nomark _)))))), ?_⟩
  refine ⟨_, rfl, _, _, _, _, true, rfl, .own _, R.ins.ty hb, R.is, _, rfl, iteT ?_⟩
  refine ⟨_, rfl, a, cRule, dx, _, _, rfl, ha, R.ins.cl, R.naV, rfl, _, rfl, b, cRule, dy, _, _, rfl, hb, R.ins.cl, R.naV, rfl, ?_⟩
  have D1 : Dp K H (.ref d) (ruD T1 p1 r1) := .tup (SqT.of hd) (.cons (.tup (SqT.of ht) (Sm.dp_ints T1)) (.cons (.int _) (.cons (.int _) .nil)))
  have D2 : Dp K H (.ref e) (ruD T2 p2 r2) := .tup (SqT.of he) (.cons (.tup (SqT.of hu) (Sm.dp_ints T2)) (.cons (.int _) (.cons (.int _) .nil)))
  have sh : ∀ T0 (p : Nat) (r : Int), SeqAt.shaped (ruD T0 p r) = true := fun T0 p r => by
    have b := depth_int T0
    have c : (ruD T0 p r).depth ≤ 64 := by
      simp only [ruD, PyData.depth, PyData.depthAll]
      omega
    simp [SeqAt.shaped, ruD, PyData.canLay0, PyData.canLayAll0, ints_lay] at c ⊢
    exact decide_eq_true c
  exact ⟨_, _, D1, D2, sh _ _ _, sh _ _ _, by rw [ruD_eqv]; exact kk⟩
theorem ok_ReqT {fd : FuncData} (T : Txt mg) (R : TxR K mg cRule fRi fEq fLen fIt fStr fCa fOf pOf) (F : Fun K "__eq__" "Rule.__eq__" s_Rule_eq fEq fd) : FnOk P w K mg base CX0 1 fEq fd ["self", "other"] (sp_ReqT K cRule) := by
  have g_Rule := R.g
  refine F.ok sc_Rule_eq (fun vs H Q E h => ?_) (fun cdv A outer s H vs Q E hr h => ?_)
  · obtain ⟨a, v, _, _, _, _, rfl, _⟩ := h
    rfl
  obtain ⟨a, v, ds, T1, p1, r1, rfl, ⟨dx, d, t, ha, hd, ht⟩, hD, kk⟩ := h
  refine ⟨_, (pss_one (ps_ret (pe_and (pe_callB call_isi (by rfl) T.n_isinstance (by decide +kernel) (pa_cons (pv 1) (pa_cons (pe_glob (v := .ref cRule) rfl g_Rule rfl) pa_nil))) (pe_one (pe_cmpR (op_eqD hr.units) (pe_fld (pv 0) rfl) (pe_fld (pv 1) rfl) (nomark _)))))), ?_⟩
  exact ⟨_, rfl, _, _, _, _, false, rfl, .own _, hD.ty, R.tIs, _, rfl, iteF kk⟩
abbrev s_NoAmount_init : Stmt := inClass (topS 10) 0
abbrev N_NoAmount_init : List Str := ["self", "value"]
theorem sc_NoAmount_init : FnScope N_NoAmount_init ["self", "value"] (defScope s_NoAmount_init) := ⟨rfl, rfl, rfl, by decide +kernel, rfl, by decide +kernel, by decide +kernel⟩
theorem ok_NoAmount_init {fd : FuncData} (F : Fun K "__init__" "NoAmount.__init__" s_NoAmount_init fN fd) : FnOk P w K mg base CX0 1 fN fd ["self", "value"] (sp_init K "value") := by
  refine F.ok sc_NoAmount_init (fun vs H Q E h => ?_) (fun cdv A outer s H vs Q E hr h => ?_)
  · obtain ⟨a, C, v, rfl, _⟩ := h
    rfl
  obtain ⟨a, C, v, rfl, T, no, ha, k⟩ := h
  exact ⟨_, pss_one (ps_ost (pv 0) (pv 1)), _, rfl, _, rfl, a, C, rfl, T, no, .inl ⟨ha, k⟩⟩
abbrev s_Rule_call : Stmt := inClass (topS 39) 6
abbrev N_Rule_call : List Str := ["self", "x"]
theorem sc_Rule_call : FnScope N_Rule_call ["self", "x"] (defScope s_Rule_call) := ⟨rfl, rfl, rfl, by decide +kernel, rfl, by decide +kernel, by decide +kernel⟩
theorem ok_Rcall {fd : FuncData} (T : Txt mg) (R : TxR K mg cRule fRi fEq fLen fIt fStr fCa fOf pOf) (XNoAmount : XVal K mg "NoAmount" "value" cNoAmount fN) (iNoAmount : IniF K "NoAmount.__init__" "value" s_NoAmount_init fN) (C_is_amount : Cal P w K mg base "is_amount" ["value"] 2 (sp_is_amount K)) (C_value_of : Cal P w K mg base "value_of" ["rule", "x"] 1 (sp_value_of K)) (F : Fun K "__call__" "Rule.__call__" s_Rule_call fCa fd) : FnOk P w K mg base (L2.CX P w) 3 fCa fd ["self", "x"] (sp_Rcall K cRule cNoAmount) := by
  obtain ⟨f_is_amount, fd_is_amount, G_is_amount, m_is_amount, k_is_amount, b_is_amount⟩ := C_is_amount
  obtain ⟨f_value_of, fd_value_of, G_value_of, m_value_of, k_value_of, b_value_of⟩ := C_value_of
  obtain ⟨fd9, F9, b_NoAmount_init⟩ := iNoAmount
  have G_NoAmount_init : FnOk P w K mg base CX0 1 fN fd9 ["self", "value"] (sp_init K "value") := ok_NoAmount_init F9
  refine F.okX sc_Rule_call (fun vs H Q E h => ?_) (fun cdv A outer s H vs Q E hr h => ?_)
  · obtain ⟨a, v, _, _, _, _, rfl, _⟩ := h
    rfl
  obtain ⟨a, v, dv, T1, p1, r1, rfl, A1, o1, b1, hD, kk, ke⟩ := h
  obtain ⟨dx, d, t, ha, hd, ht⟩ := A1
  refine ⟨_, (pss_cons (ps_if (pt_not (pt_val (pe_call G_is_amount (hr.mono (by decide)) (by rfl) m_is_amount k_is_amount b_is_amount .nil pass0 (pa_cons (pv 1) pa_nil)))) (pss_one (ps_raise rfl (takes_of rfl rfl rfl rfl) (pmk_oex XNoAmount.oex XNoAmount.iC XNoAmount.tI G_NoAmount_init (hr.mono (by decide)) b_NoAmount_init .nil pass0 (by rfl) XNoAmount.g (pa_cons (pv 1) pa_nil)))) pss_nil)
    (pss_one (ps_ret (pe_call G_value_of (hr.mono (by decide)) (by rfl) m_value_of k_value_of b_value_of .nil pass0 (pa_cons (pe_fld (pv 0) rfl) (pa_cons (pv 1) pa_nil)))))), ?_⟩
  refine ⟨_, rfl, v, dv, rfl, hD, _, rfl, ?_⟩
  cases e : amB dv with
  | false =>
    refine iteT ?_
    refine xc_mk XNoAmount.oex XNoAmount.no ⟨_, rfl, v, rfl, fun y H7 s7 hy => ke e H7 y s7 hy⟩ (fun h z => ?_)
    obtain ⟨v, e, q⟩ := z
    exact ⟨v, e, h _ _ q⟩
  | true =>
    obtain ⟨i, rfl, i0⟩ := amB_int e
    cases hD
    obtain ⟨x, rfl⟩ : ∃ x : Nat, i = (x : Int) := ⟨i.toNat, by omega⟩
    refine iteF ?_
    exact ⟨_, rfl, a, cRule, dx, _, _, rfl, ha, R.ins.cl, R.naV, rfl, _, rfl, d, T1, p1, r1, x, rfl, ⟨t, hd, ht⟩, o1, b1, kk x rfl⟩
def sp_Rcall0 (cRule : Addr) : Sp := fun vs H Q _ => ∃ (a : Addr) (T : List Int) (p : Nat) (r : Int) (x : Nat), vs = [.ref a, .int (x : Int)] ∧ RuleO cRule H a T p r ∧ RuleOk T p r ∧ RB T p r ∧ Q (.int (vl T p r x)) H
theorem ok_Rcall0 {fd : FuncData} (F : FnOk P w K mg base (L2.CX P w) 3 fCa fd ["self", "x"] (sp_Rcall K cRule cNoAmount)) : FnOk P w K mg base CX0 3 fCa fd ["self", "x"] (sp_Rcall0 cRule) := by
  refine no_raise F fun vs H Q E h => ?_
  obtain ⟨a, T0, p, r, x, rfl, O, o, b, kk⟩ := h
  refine ⟨a, _, .int (x : Int), T0, p, r, rfl, O, o, b, .int _, fun y e => ?_, fun e => ?_⟩
  · injection e with e
    obtain rfl : x = y := by omega
    exact kk
  · have e : decide (0 ≤ (x : Int)) = false := e
    have := of_decide_eq_false e
    omega
/-- Rule(..) of a rule that stands at d -/
theorem new_rule {d : Addr} {H : Hp} {T : List Int} {p : Nat} {r : Int} {Q : Addr → Hp → Prop} (RA : RuleAt H d T p r) (sh : Short T p r) (b : RB T p r) (l5 : T.length ≤ 5000) (kk : ∀ a H', Same H H' → RuleO cRule H' a T p r → Q a H') :
    ∀ x dx : Addr, H x = none → H dx = none → dx ≠ x → sp_Rinit0 K cRule [.ref x, .ref d] (upd (upd H dx (.own x)) x (.ins cRule dx [])) (fun v H' => v = .non ∧ Q x H') E0 := by
  intro x dx nx ndx ne
  have sx : Same H (upd (upd H dx (.own x)) x (.ins cRule dx [])) := fun b o hb => by
    rw [upd_ne (ne_of_none hb nx), upd_ne (ne_of_none hb ndx)]
    exact hb
  refine ⟨x, dx, d, T, p, r, rfl, upd_same, RA.same sx, sh, b, l5, fun H' keep O => ⟨rfl, kk x H' (fun b o hb => keep b o (ne_of_none hb nx) (sx b o hb)) O⟩⟩
abbrev s_Rule_of : Stmt := inClass (topS 39) 1
abbrev N_Rule_of : List Str := ["cls", "table", "period", "rise"]
theorem sc_Rule_of : FnScope N_Rule_of ["cls", "table", "period", "rise"] (defScope s_Rule_of) := ⟨rfl, rfl, rfl, by decide +kernel, rfl, by decide +kernel, by decide +kernel⟩
theorem ok_Rof {fd fdI : FuncData} (T : Txt mg) (R : TxR K mg cRule fRi fEq fLen fIt fStr fCa fOf pOf) (C_canonical : CalX P w K mg base "canonical" ["table", "period", "rise"] 4 (sp_canon K cBadRule)) (G_Rule_init : FnOk P w K mg base CX0 5 fRi fdI ["self", "value"] (sp_Rinit0 K cRule)) (b_Rule_init : Binds K fdI ["self", "value"] []) (F : Fun K "of" "Rule.of" s_Rule_of fOf fd) : FnOk P w K mg base (L2.CX P w) 7 fOf fd ["cls", "table", "period", "rise"] (sp_Rof cRule cBadRule) := by
  obtain ⟨f_canonical, fd_canonical, G_canonical, m_canonical, k_canonical, b_canonical⟩ := C_canonical
  have Mk_Rule := R.mak
  refine F.okX sc_Rule_of (fun vs H Q E h => ?_) (fun cdv A outer s H vs Q E hr h => ?_)
  · obtain ⟨a, T0, p, r, rfl, _⟩ := h
    rfl
  obtain ⟨a, T0, p, r, rfl, hA, l5, rb2, rb, kf, ke, kk⟩ := h
  refine ⟨_, (pss_one (ps_ret (pe_makeV (i := 0) Mk_Rule G_Rule_init (hr.mono (by decide)) rfl (Or.inl rfl) b_Rule_init .nil pass0 (pa_cons (pe_callS G_canonical (hr.mono (by decide)) rfl m_canonical k_canonical b_canonical (fun σ => passAt (takes_of rfl rfl rfl rfl) σ) (pa_cons (pv 1) (pa_cons (pv 2) (pa_cons (pv 3) pa_nil)))) pa_nil)))), ?_⟩
  refine ⟨rfl, _, rfl, _, rfl, _, rfl, a, T0, p, r, rfl, hA, l5, rb, kf, ke, fun F o H1 d T' p' r' s1 RA sh hv le => ?_⟩
  exact new_rule RA sh (rb2 T' p' r' sh hv le o) (by omega) fun q H2 s2 O => kk F o H2 q T' p' r' (s1.trans s2) O sh hv le
end
end Sm

set_option Elab.async false
set_option linter.all false
set_option maxRecDepth 100000
set_option maxHeartbeats 16000000
namespace Sm
open PySem PySem.Spec PyProof.Rows L2 LamX
open C8 (pss_cut tCut)
structure XCg (mg : Str → Option Value) (cChangeError : Addr) : Prop where
  gChangeError : mg "ChangeError" = some (.ref cChangeError)
/-- the law's own word for a rule of the right form -/
def Wd (T : List Int) (p : Nat) (r : Int) (w : V) : Prop := (¬ RuleOk T p r ∧ w = .str "falls") ∨ (RuleOk T p r ∧ ((¬ Short T p r ∧ w = .str "long") ∨ (Short T p r ∧ w = .non)))
def sp_l_word (_ : PySem.W.Frag) : Sp := fun vs H Q _ => ∃ (d : Addr) (T : List Int) (p : Nat) (r : Int) (M : Int), vs = [.ref d] ∧ RuleAt H d T p r ∧ RuleW T p r ∧ RM M T p r ∧ 0 ≤ M ∧ M ≤ 10000000000 ∧ (∀ i, i < T.length → 0 ≤ T.getD i 0) ∧ ∀ w H', Same H H' → Wd T p r w → Q w H'
def sp_l_no_amount (K : PySem.W.Frag) (cRule : Addr) : Sp := fun vs H Q _ => ∃ (a : Addr) (v : V) (dv : PyData) (T : List Int) (p : Nat) (r : Int), vs = [.ref a, v] ∧ RuleO cRule H a T p r ∧ RuleOk T p r ∧ RB T p r ∧ Dq K H v dv ∧ amB dv = false ∧ Sml 3 300 dv ∧ ∀ H', Same H H' → Q (.bl true) H'
theorem shp (T : List Int) (p : Nat) (r : Int) : SeqAt.shaped (ruD T p r) = true := by
  have b := depth_int T
  have c : (ruD T p r).depth ≤ 64 := by
    simp only [ruD, PyData.depth, PyData.depthAll]
    omega
  simp [SeqAt.shaped, ruD, PyData.canLay0, PyData.canLayAll0, ints_lay] at c ⊢
  exact decide_eq_true c
theorem dp_rule {K : PySem.W.Frag} {H : Hp} {d : Addr} {T : List Int} {p : Nat} {r : Int} (R : RuleAt H d T p r) : Dp K H (.ref d) (ruD T p r) := by
  obtain ⟨t, hd, ht⟩ := R
  exact .tup (SqT.of hd) (.cons (.tup (SqT.of ht) (Sm.dp_ints T)) (.cons (.int _) (.cons (.int _) .nil)))
/-- what falls is seen at the table's places -/
theorem falls_any {T : List Int} {p : Nat} {r : Int} (w : RuleW T p r) (nn : ∀ i, i < T.length → 0 ≤ T.getD i 0) : ((List.range T.length).map fun i => decide (vl T p r (i + 1) < T.getD i 0)).any id = false ↔ RuleOk T p r := by
  rw [List.any_map, List.any_eq_false]
  constructor
  · intro h
    refine W_ok w nn fun x hx => ?_
    have := h x (List.mem_range.mpr hx)
    have := of_decide_eq_false (Bool.eq_false_iff.mpr this)
    omega
  · intro o i hi
    have hi := List.mem_range.mp hi
    have := o.up i
    rw [vl_lt hi] at this
    exact Bool.eq_false_iff.mp (decide_eq_false (by omega))
section
variable {P : Program} {w : World} {K : PySem.W.Frag} {mg : Str → Option Value} {base : Heap} {cBadRule cNoAmount fB fN cRule fRi fEq fLen fIt fStr fCa fOf pOf cChangeError : Addr}
abbrev s_l_word : Stmt := topS 49
abbrev N_l_word : List Str := ["_law_rule", "_law_table", "_law_period", "_law_rise", "_law_x"]
theorem sc_l_word : FnScope N_l_word ["_law_rule"] (defScope s_l_word) := ⟨rfl, rfl, rfl, by decide +kernel, rfl, by decide +kernel, by decide +kernel⟩
theorem ok_l_word (T : Txt mg) (D : Df K mg "_law_word" s_l_word ["_law_rule"]) (C_l_short : Cal P w K mg base "_law_short" ["_law_rule"] 3 (sp_l_short K)) (C_l_value : Cal P w K mg base "_law_value" ["_law_rule", "_law_x"] 1 (sp_l_value K)) : Cal P w K mg base "_law_word" ["_law_rule"] 4 (sp_l_word K) := by
  obtain ⟨f_l_short, fd_l_short, G_l_short, m_l_short, k_l_short, b_l_short⟩ := C_l_short
  obtain ⟨f_l_value, fd_l_value, G_l_value, m_l_value, k_l_value, b_l_value⟩ := C_l_value
  refine D.cal sc_l_word (fun vs H Q E h => ?_) (fun f cdv A outer s H vs Q E hr h => ?_)
  · obtain ⟨d, T0, p, r, M, rfl, _⟩ := h
    rfl
  obtain ⟨d, T0, p, r, M, rfl, RA, rw0, bm, M0, M1, nn, kk⟩ := h
  obtain ⟨t, hd, ht⟩ := id RA
  have ll := len_int T0
  have p0 := rw0.p0
  have p1 := rw0.p1
  have r0 := rw0.r0
  have bl := bm.len
  refine ⟨_, (pss_cons (ps_asg (pv 0) (pg_tup (by rfl) (pgs_cons (pg_name (i := 1) sc_l_word.nd rfl (Or.inr rfl)) (pgs_cons (pg_name (i := 2) sc_l_word.nd rfl (Or.inl rfl)) (pgs_cons (pg_name (i := 3) sc_l_word.nd rfl (Or.inl rfl)) pgs_nil)))))
    (pss_cons (ps_if (PW.pt (pw_or (pt_not (pt_chain op_le op_le pe_int (pv 2) (pe_callB call_len_seq (by rfl) T.n_len (by decide +kernel) (pa_cons (pv 1) pa_nil)))) (pw_or (pt_cmpR op_lt (pv 3) pe_int (nomark _)) (pw_or1 (pt_cmpR op_lt (pe_callB (cr_minT rfl) (by rfl) T.n_min (by decide +kernel) (pa_cons (pv 1) pa_nil)) pe_int (nomark _)))))) (pss_one (ps_ret pe_str)) pss_nil)
    (pss_cons (ps_if (pt_val (pe_callB (cr_any rfl) (by rfl) T.n_any (by decide +kernel) (pa_cons (pe_lc (own := [("_law_x", 4)]) (g := gName 4) (tt := tYes) rfl sc_l_word.nd (pi_range1 (by rfl) T.n_range (pa_cons (pe_callB call_len_seq (by rfl) T.n_len (by decide +kernel) (pa_cons (pv 1) pa_nil)) pa_nil)) (blkOk_by (own := [("_law_x", 4)]) (N := N_l_word) (sc := defScope s_l_word) (by decide +kernel)) (fun _ _ _ _ _ => pg_name (i := 4) sc_l_word.nd rfl (Or.inl rfl)) (fun _ _ _ _ _ => pts_nil) (fun _ _ _ _ _ => (pe_cmpR op_lt (pe_call G_l_value (hr.mono (by decide)) (by rfl) m_l_value k_l_value b_l_value .nil pass0 (pa_cons (pv 0) (pa_cons (pe_op op_add (pv 4) pe_int) pa_nil))) (pe_ix (show IxR _ (rIxT K) from ix_tup) (pv 1) (pv 4) (fun _ _ => rfl)) (nomark _)))) pa_nil))) (pss_one (ps_ret pe_str)) pss_nil)
    (pss_one (ps_ret (pe_ifExp (pt_cmpR (op_eqD hr.units) (pe_call G_l_short (hr.mono (by decide)) (by rfl) m_l_short k_l_short b_l_short .nil pass0 (pa_cons (pv 0) pa_nil)) (pv 0) (nomark _)) pe_non pe_str)))))), ?_⟩
  refine ⟨_, rfl, _, _, rfl, SqT.of hd, rfl, _, _, rfl, _, _, rfl, _, _, rfl, rfl, ?_⟩
  refine ⟨_, rfl, _, _, rfl, rfl, _, rfl, iteP (by omega) ?_⟩
  refine ⟨_, rfl, _, _, rfl, .inr (SqT.of ht), _, _, rfl, rfl, _, rfl, iteNP (by rw [ll]; omega) ?_⟩
  refine ⟨_, rfl, _, _, rfl, rfl, _, rfl, iteN (by omega) ?_⟩
  refine ⟨_, rfl, t, T0, rfl, SqT.of ht, by omega, fun m hm _ => ⟨_, _, rfl, rfl, _, rfl, iteN ?_ ?_⟩⟩
  · obtain ⟨i, hi, rfl⟩ := List.getElem_of_mem hm
    have := nn i hi
    rw [List.getD_eq_getElem?_getD, List.getElem?_eq_getElem hi] at this
    exact Int.not_lt.mpr this
  refine ⟨_, rfl, _, _, rfl, .inr (SqT.of ht), _, rfl, by rw [ll]; omega, by rw [ll]; omega, fun U nU => ?_⟩
  rw [show Int.toNat (((T0.map V.int).length : Nat) : Int) = T0.length by rw [ll]; omega]
  have bb := bm.rb (by omega)
  refine lc_mR (n := T0.length) (fun i => .bl (decide (vl T0 p r (i + 1) < T0.getD i 0))) nU (by omega) ?_ gName_mono ?_
  · intro i H' hi s' R' hR
    rw [Int.zero_add]
    refine ⟨rfl, _, rfl, _, rfl, _, _, rfl, rfl, d, T0, p, r, i + 1, rfl, RA.same s', rw0, bb, ?_⟩
    exact ⟨_, rfl, _, rfl, _, _, _, _, rfl, rfl, SqT.of (s' _ _ ht), atI_nat (get_int hi), _, _, rfl, rfl, hR H' (Same.refl _)⟩
  intro H1 s1 hU
  have hU : H1 U = some (.lst (((List.range T0.length).map fun i => decide (vl T0 p r (i + 1) < T0.getD i 0)).map V.bl)) := by rw [hU, List.map_map]; rfl
  refine ⟨U, _, rfl, SqL.of hU, _, rfl, ?_⟩
  cases c : (((List.range T0.length).map fun i => decide (vl T0 p r (i + 1) < T0.getD i 0)).any id) with
  | true =>
    refine iteT (kk _ H1 s1 (.inl ⟨fun o => ?_, rfl⟩))
    rw [(falls_any rw0 nn).mpr o] at c
    cases c
  | false =>
    have o := (falls_any rw0 nn).mp c
    refine iteF ?_
    refine ⟨_, rfl, d, T0, p, r, M, rfl, RA.same s1, o, bm, M0, by omega, fun H2 q T' p' r' s2 RQ sh hv le _ => ?_⟩
    refine ⟨_, rfl, _, _, dp_rule RQ, dp_rule (RA.same (s1.trans s2)), shp _ _ _, shp _ _ _, _, rfl, ?_⟩
    rw [ruD_eqv]
    by_cases e : T' = T0 ∧ p' = p ∧ r' = r
    · rw [decide_eq_true e]
      obtain ⟨rfl, rfl, rfl⟩ := e
      exact iteT (kk _ H2 (s1.trans s2) (.inr ⟨o, .inr ⟨sh, rfl⟩⟩))
    · rw [decide_eq_false e]
      refine iteF (kk _ H2 (s1.trans s2) (.inr ⟨o, .inl ⟨fun sh2 => e ?_, rfl⟩⟩))
      exact short_one sh sh2 hv
abbrev s_l_no_amount : Stmt := topS 51
abbrev N_l_no_amount : List Str := ["_law_one_here", "_law_value_here", "error"]
theorem sc_l_no_amount : FnScope N_l_no_amount ["_law_one_here", "_law_value_here"] (defScope s_l_no_amount) := ⟨rfl, rfl, rfl, by decide +kernel, rfl, by decide +kernel, by decide +kernel⟩
theorem ok_l_no_amount {f : Addr} {fd fdC : FuncData} (T : Txt mg) (R : TxR K mg cRule fRi fEq fLen fIt fStr fCa fOf pOf) (XNoAmount : XVal K mg "NoAmount" "value" cNoAmount fN) (XC : XCg mg cChangeError) (kCE : PySem.W.kitOne K (.ref cNoAmount) (.ref cChangeError) = some true)
    (GX_Rule_call : FnOk P w K mg base (L2.CX P w) 3 fCa fdC ["self", "x"] (sp_Rcall K cRule cNoAmount)) (b_Rule_call : Binds K fdC ["self", "x"] []) (F : Fun K "_law_no_amount" "_law_no_amount" s_l_no_amount f fd) : FnG P w K mg base 4 f fd ["_law_one_here", "_law_value_here"] (sp_l_no_amount K cRule) := by
  have M_Rule_call := R.mCa
  have Fi_Rule_call := R.fiCa
  refine FnG.body F sc_l_no_amount (fun vs H Q E h => ?_) (fun cdv A outer s H vs Q E gu hr h => ?_)
  · obtain ⟨a, v, _, _, _, _, rfl, _⟩ := h
    rfl
  obtain ⟨a, v, dv, T0, p, r, rfl, O, o, b, hD, am, sm, kk⟩ := h
  obtain ⟨dx, d, t, ha, hd, ht⟩ := id O
  refine ⟨_, (pss_cons (ps_try_names rfl rfl sc_l_no_amount.nd
      (fun W pn xe tk _ => (pss_one (ps_expr (pe_ownCallS (pv 0) M_Rule_call Fi_Rule_call GX_Rule_call b_Rule_call (hr.mono (by decide)) (fun σ => passAt tk σ) (pa_cons (pv 1) pa_nil)))))
      (.cons (i := 2) ⟨rfl, by decide, .inl XNoAmount.g⟩ rfl rfl (fun a oe cls d pn hz hf => (pss_one (ps_ret (pe_and (pe_callB (call_isX hz hf) (by rfl) T.n_isinstance (by decide +kernel) (pa_cons (pv 2) (pa_cons (pe_glob (v := .ref cChangeError) rfl XC.gChangeError rfl) pa_nil))) (pe_one (pe_cmpR op_eq (pe_callB (show CallR _ (.builtin "repr") (rReprQ K) from call_reprU gu (un_mk hr)) (by rfl) T.n_repr (by decide +kernel) (pa_cons (pe_xf XNoAmount.xf XNoAmount.no hz hf (pv 2)) pa_nil)) (pe_callB (show CallR _ (.builtin "repr") (rReprQ K) from call_reprU gu (un_mk hr)) (by rfl) T.n_repr (by decide +kernel) (pa_cons (pv 1) pa_nil)) (nomark _)))))))
      .nil))
    (pss_one (ps_ret pe_bl))), ?_⟩
  refine ⟨_, rfl, a, rfl, _, rfl, ⟨dx, _, ha⟩, a, v, dv, T0, p, r, rfl, O, o, b, hD, fun x e => ?_, fun _ H' y s' hy => ?_⟩
  · rw [e] at am
    have am : decide (0 ≤ (x : Int)) = false := am
    have := of_decide_eq_false am
    omega
  · refine ⟨true, XNoAmount.te, fun _ ea nea => ?_, fun z => nomatch z⟩
    have dd := hD.same s'
    have dep : dv.depth ≤ 60 := by have := sm.dep; omega
    have len : dv.shown.length ≤ sizeLine := by have := sm.len; rw [sizeLine_eq]; omega
    refine ⟨_, rfl, cNoAmount, y, _, rfl, rfl, hy, XNoAmount.ec, .inl ⟨_, _, true, rfl, .own _, kCE, _, rfl, iteT ?_⟩⟩
    refine ⟨_, rfl, rfl, rfl, y, _, v, rfl, hy, rfl, ?_⟩
    refine ⟨v, dv, rfl, dd, sm.sh, dep, len, _, rfl, v, dv, rfl, dd, sm.sh, dep, len, rfl, ?_⟩
    rw [decide_eq_true rfl]
    exact kk H' s'
abbrev s_l_is_bad : Stmt := topS 50
abbrev N_l_is_bad : List Str := ["_law_call", "_law_word_here", "error"]
theorem sc_l_is_bad : FnScope N_l_is_bad ["_law_call", "_law_word_here"] (defScope s_l_is_bad) := ⟨rfl, rfl, rfl, by decide +kernel, rfl, by decide +kernel, by decide +kernel⟩
/-- the call raises BadRule with the very word -/
def TBd (K : PySem.W.Frag) (cB : Addr) (v : V) : (XK → Hp → VK → Prop) → Hp → VK → Prop := fun tl H Q => ∃ w : Str, v = .str w ∧ (reprText w).length ≤ 100 ∧ ∀ (out : XK) (Q' : VK), (∀ x H', Same H H' → H' x = some (.xd [(("error" : Str), .str w)]) → (∀ H2, Same H H2 → Q (.bl true) H2) → out (.ref cB) (some x) H') → tl out H Q'
theorem bad_gives {X : Cx} {q : Str} {cB fB cChangeError : Addr} (T : Txt X.mg) (XB : XVal X.K X.mg "BadRule" "error" cB fB) (gCE : X.mg "ChangeError" = some (.ref cChangeError)) (kCE : PySem.W.kitOne X.K (.ref cB) (.ref cChangeError) = some true) (gu : X.A.guards = some []) (un : X.A.units + 200 < cLine) (g : Addr) (cdg : Value) : Gives2 X N_l_is_bad "_law_is_bad" (defScope s_l_is_bad) g cdg (defBody s_l_is_bad) "_law_call" q (TBd X.K cB) := by
  rintro f c' s H v Q tl act known ⟨w, rfl, wl, told⟩
  refine ⟨_, pss_cons (ps_act_as (i := 2) (CS := cB) (by rfl) XB.g (by decide) sc_l_is_bad.nd rfl (by rfl) act (fun a oe cls d pn hz hf =>
    (pss_one (ps_ret (pe_and (pe_callB (show CallR _ (.builtin "isinstance") (rIsX X.K cls d a) from call_isX hz hf) (by rfl) T.n_isinstance (by decide +kernel) (pa_cons (pv 2) (pa_cons (pe_glob (v := .ref cChangeError) rfl gCE rfl) pa_nil)))
      (pe_one (pe_cmpR op_eq (pe_callB (show CallR _ (.builtin "repr") (rReprQ X.K) from call_reprU gu (by show X.A.units + 3 + 100 < cLine; omega)) (by rfl) T.n_repr (by decide +kernel) (pa_cons (pe_xf XB.xf XB.no hz hf (pv 2)) pa_nil)) (pe_callB (show CallR _ (.builtin "repr") (rReprQ X.K) from call_reprU gu (by show X.A.units + 3 + 100 < cLine; omega)) (by rfl) T.n_repr (by decide +kernel) (pa_cons (pv 1) pa_nil)) (nomark _))))))))
    (pss_one (ps_ret pe_bl)), ?_⟩
  refine ⟨rfl, known, told _ _ fun x H' s' hx kQ => ?_⟩
  refine ⟨true, XB.te, fun _ a na => ?_, fun z => nomatch z⟩
  have len : (PyData.str w).shown.length ≤ sizeLine := Nat.le_trans (show (reprText w).length ≤ 100 from wl) (by decide)
  refine ⟨_, rfl, cB, x, _, rfl, rfl, hx, XB.ec, .inl ⟨_, _, true, rfl, .own _, kCE, _, rfl, iteT ?_⟩⟩
  refine ⟨_, rfl, rfl, rfl, x, _, _, rfl, hx, rfl, ?_⟩
  refine ⟨_, .str w, rfl, .str w, by simp [PyData.showable], by simp [PyData.depth], len, _, rfl, _, .str w, rfl, .str w, by simp [PyData.showable], by simp [PyData.depth], len, rfl, ?_⟩
  rw [decide_eq_true rfl]
  exact kQ H' s'
end
end Sm

set_option Elab.async false
set_option linter.all false
set_option maxRecDepth 100000
set_option maxHeartbeats 16000000
namespace Sm
open PySem PySem.Spec PyProof.Rows L2 LamX
open C8 (pss_cut tCut)
theorem RuleO.fr {cRule : Addr} {H H' : Hp} {a p l : Addr} {n : Int} {T : List Int} {q : Nat} {r : Int} (h : RuleO cRule H a T q r) (f : Fr p l H H') (D : Deck H p l n) : RuleO cRule H' a T q r := by
  obtain ⟨dx, d, t, h1, h2, h3⟩ := h
  obtain ⟨cells, hl, _⟩ := D.hl
  refine ⟨dx, d, t, f _ _ (fun e => ?_) (fun e => ?_) h1, f.tup D h2, f.tup D h3⟩
  · rw [e, D.hp] at h1
    cases h1
  · rw [e, hl] at h1
    cases h1
/-- all that a rule tells of itself -/
def toldD (T : List Int) (p : Nat) (r : Int) : PyData := .list [ruD T p r, .tuple (T.map PyData.int), .int (p : Int), .int r, .int (T.length : Nat), .list (T.map PyData.int)]
theorem told_shown {T : List Int} {p : Nat} {r : Int} (h : ∀ n ∈ T, n.natAbs.log2 < 1920) (l : T.length ≤ 60) (hp : (p : Int).natAbs.log2 < 1920) (hr : r.natAbs.log2 < 1920) (hl : ((T.length : Nat) : Int).natAbs.log2 < 1920) : PyData.showable (toldD T p r) = true ∧ (toldD T p r).depth ≤ 60 ∧ (toldD T p r).shown.length ≤ sizeLine := by
  have dp := depth_int T
  obtain ⟨s1, s2⟩ := shown_ints h
  have a1 := PyProof.Rows.int_text_len_1921 hp
  have a2 := PyProof.Rows.int_text_len_1921 hr
  have a3 := PyProof.Rows.int_text_len_1921 hl
  have b1 := tupleText_len_le (PyData.shownAll (T.map PyData.int))
  have b2 := listText_len_le (PyData.shownAll (T.map PyData.int))
  refine ⟨?_, ?_, ?_⟩
  · have i1 : ∀ i : Int, i.natAbs.log2 < 1920 → PyData.showable (.int i) = true := fun i hi => by
      have : PyData.showableAll [PyData.int i] = true := showable_ints (ns := [i]) fun n hn => by rw [List.mem_singleton.mp hn]; exact hi
      simpa [PyData.showableAll] using this
    have j2 := i1 _ hr
    simp only [PyData.showable] at j2
    simp [toldD, ruD, PyData.showable, PyData.showableAll, showable_ints h, j2]
    exact ⟨by simpa using hp, by simpa using hl⟩
  · simp only [toldD, ruD, PyData.depth, PyData.depthAll]
    omega
  · have c1 := tupleText_len_le (PyData.shownAll [.tuple (T.map PyData.int), .int (p : Int), .int r])
    have c2 := listText_len_le (PyData.shownAll [ruD T p r, .tuple (T.map PyData.int), .int (p : Int), .int r, .int (T.length : Nat), .list (T.map PyData.int)])
    simp only [toldD, ruD, PyData.shown, PyData.shownAll, List.map_cons, List.map_nil, List.sum_cons, List.sum_nil, List.length_cons, List.length_nil] at c1 c2 ⊢
    refine Nat.le_trans c2 (Nat.le_trans (show _ ≤ 1000000 by omega) (by decide))
theorem log_nn {i : Int} (h0 : 0 ≤ i) (h1 : i ≤ 10 ^ 60) : i.natAbs.log2 < 1920 :=
  Nat.lt_of_lt_of_le (PySem.Flt.log2_lt_of (k := 310) (by decide) (by omega)) (by decide)
theorem int_shown {i : Int} (h : i.natAbs.log2 < 1920) : PyData.showable (.int i) = true ∧ (PyData.int i).depth ≤ 60 ∧ (PyData.int i).shown.length ≤ sizeLine := by
  have a := PyProof.Rows.int_text_len_1921 h
  refine ⟨?_, by simp [PyData.depth], ?_⟩
  · have : PyData.showableAll [PyData.int i] = true := showable_ints (ns := [i]) fun n hn => by rw [List.mem_singleton.mp hn]; exact h
    simpa [PyData.showableAll] using this
  · simp only [PyData.shown]
    exact Nat.le_trans (show _ ≤ 3000 by omega) (by decide)
theorem bl_shown (b : Bool) : PyData.showable (.bool b) = true ∧ (PyData.bool b).depth ≤ 60 ∧ (PyData.bool b).shown.length ≤ sizeLine := by cases b <;> exact ⟨by decide, by decide, by decide⟩
theorem short_nine : Short [9] 1 9 := by
  have o : RuleOk [9] 1 9 := ⟨by decide, by decide, by decide, fun i hi => by
    have hi : i < 1 := hi
    obtain rfl : i = 0 := by omega
    decide, fun i hi => by have hi : i + 1 < 1 := hi; omega, by decide⟩
  exact ⟨o, fun s c h0 h1 => by omega, .inl rfl⟩
theorem rb_nine : RB [9] 1 9 := ⟨by decide, by decide, fun i hi => by
  have hi : i < 1 := hi
  obtain rfl : i = 0 := by omega
  decide⟩
def sp_l_right (K : PySem.W.Frag) (cRule : Addr) : Sp := fun vs H Q _ => ∃ (p l a d : Addr) (n : Int) (T : List Int) (q : Nat) (r : Int), vs = [.ref p, .ref a, .ref d] ∧ Deck H p l n ∧ 0 ≤ n ∧ n ≤ 900000 ∧ RuleO cRule H a T q r ∧ RuleAt H d T q r ∧ Short T q r ∧ RM 1000000 T q r ∧
  ∀ H' n', Fr p l H H' → Deck H' p l n' → n ≤ n' → n' ≤ n + 5 → Q (.bl true) H'
section
variable {P : Program} {w : World} {K : PySem.W.Frag} {mg : Str → Option Value} {base : Heap} {cBadRule cNoAmount fB fN cRule fRi fEq fLen fIt fStr fCa fOf pOf cChangeError : Addr}
abbrev s_l_right : Stmt := topS 52
abbrev N_l_right : List Str := ["_law_deck_here", "_law_one_here", "_law_rule", "_law_told", "_law_x", "_law_text", "_law_other", "_law_wrong", "_law_item"]
theorem sc_l_right : FnScope N_l_right ["_law_deck_here", "_law_one_here", "_law_rule"] (defScope s_l_right) := ⟨rfl, rfl, rfl, by decide +kernel, rfl, by decide +kernel, by decide +kernel⟩
theorem ok_l_right {f fNA : Addr} {fd fdI fdE fdL fdT fdS fdC fdN : FuncData} (T : Txt mg) (R : TxR K mg cRule fRi fEq fLen fIt fStr fCa fOf pOf)
    (G_Rule_init : FnOk P w K mg base CX0 5 fRi fdI ["self", "value"] (sp_Rinit0 K cRule)) (b_Rule_init : Binds K fdI ["self", "value"] []) (G_eq : FnOk P w K mg base CX0 1 fEq fdE ["self", "other"] (sp_Req cRule)) (G_eqT : FnOk P w K mg base CX0 1 fEq fdE ["self", "other"] (sp_ReqT K cRule)) (b_eq : Binds K fdE ["self", "other"] [])
    (G_len : FnOk P w K mg base CX0 1 fLen fdL ["self"] (sp_Rlen cRule)) (b_len : Binds K fdL ["self"] []) (G_iter : FnOk P w K mg base CX0 1 fIt fdT ["self"] (sp_Rit cRule)) (b_iter : Binds K fdT ["self"] []) (G_str : FnOk P w K mg base CX0 2 fStr fdS ["self"] (sp_Rstr cRule)) (b_str : Binds K fdS ["self"] [])
    (G_Rule_call : FnOk P w K mg base CX0 3 fCa fdC ["self", "x"] (sp_Rcall0 cRule)) (b_Rule_call : Binds K fdC ["self", "x"] [])
    (G_l_no_amount : FnG P w K mg base 4 fNA fdN ["_law_one_here", "_law_value_here"] (sp_l_no_amount K cRule)) (m_l_no_amount : mg "_law_no_amount" = some (.ref fNA)) (k_l_no_amount : PySem.W.keepIn K (.ref fNA) = true) (b_l_no_amount : L2.Binds K fdN ["_law_one_here", "_law_value_here"] [])
    (C_l_draw : Cal P w K mg base "_law_draw" ["_law_deck_here", "_law_many"] 1 (sp_l_draw K)) (C_l_one : Cal P w K mg base "_law_one" ["_law_deck_here", "_law_items"] 2 (sp_l_one K)) (C_l_value : Cal P w K mg base "_law_value" ["_law_rule", "_law_x"] 1 (sp_l_value K)) (C_l_word : Cal P w K mg base "_law_word" ["_law_rule"] 4 (sp_l_word K))
    (F : Fun K "_law_right" "_law_right" s_l_right f fd) : FnG P w K mg base 8 f fd ["_law_deck_here", "_law_one_here", "_law_rule"] (sp_l_right K cRule) := by
  have g_Rule := R.g
  have Mk_Rule := R.mak
  have M_eq := R.mEq
  have N_eq := R.an
  have O_eq := R.mo
  have M_len := R.mLen
  have M_iter := R.mIt
  have M_str := R.mStr
  have M_Rule_call := R.mCa
  have Fi_Rule_call := R.fiCa
  obtain ⟨f_l_draw, fd_l_draw, G_l_draw, m_l_draw, k_l_draw, b_l_draw⟩ := C_l_draw
  obtain ⟨f_l_one, fd_l_one, G_l_one, m_l_one, k_l_one, b_l_one⟩ := C_l_one
  obtain ⟨f_l_value, fd_l_value, G_l_value, m_l_value, k_l_value, b_l_value⟩ := C_l_value
  obtain ⟨f_l_word, fd_l_word, G_l_word, m_l_word, k_l_word, b_l_word⟩ := C_l_word
  refine FnG.body F sc_l_right (fun vs H Q E h => ?_) (fun cdv A outer s H vs Q E gu hr h => ?_)
  · obtain ⟨p, l, a, d, n, T0, q, r, rfl, _⟩ := h
    rfl
  obtain ⟨p, l, a, d, n, T0, q, r, rfl, D, n0, n1, O, RA, sh, bm, kk⟩ := h
  obtain ⟨dx, dv, tv, ha, hdv, htv⟩ := id O
  obtain ⟨t, hd, ht⟩ := id RA
  have lm : (T0.map V.int).length = T0.length := List.length_map ..
  have so := sh.ok
  have p0 := so.p0
  have p1 := so.p1
  have r0 := so.r0
  have bl := bm.len
  refine ⟨_, (pss_cons (ps_set (i := 3) sc_l_right.nd rfl (Or.inl rfl) (pe_lstN (pa_cons (pe_fld (pv 1) rfl) (pa_cons (pe_fld (pv 1) rfl) (pa_cons (pe_fld (pv 1) rfl) (pa_cons (pe_fld (pv 1) rfl) (pa_cons (pe_callB (call_lenO M_len G_len b_len (hr.mono (by decide)) pass0) (by rfl) T.n_len (by decide +kernel) (pa_cons (pv 1) pa_nil)) (pa_cons (pe_callTy (call_listIt rfl M_iter G_iter b_iter M_len G_len b_len (hr.mono (by decide))) (by rfl) T.n_list (by decide +kernel) (pa_cons (pv 1) pa_nil)) pa_nil))))))))
    (pss_cons (ps_if (pt_cmpR op_ne (pe_callB (call_reprQ gu ⟨_, hr⟩) (by rfl) T.n_repr (by decide +kernel) (pa_cons (pv 3) pa_nil)) (pe_callB (call_reprQ gu ⟨_, hr⟩) (by rfl) T.n_repr (by decide +kernel) (pa_cons (pe_lstN (pa_cons (pv 2) (pa_cons (pe_ix ix_tup (pv 2) pe_int (fun _ _ => rfl)) (pa_cons (pe_ix ix_tup (pv 2) pe_int (fun _ _ => rfl)) (pa_cons (pe_ix ix_tup (pv 2) pe_int (fun _ _ => rfl)) (pa_cons (pe_callB call_len_seq (by rfl) T.n_len (by decide +kernel) (pa_cons (pe_ix ix_tup (pv 2) pe_int (fun _ _ => rfl)) pa_nil)) (pa_cons (pe_callTy call_listN (by rfl) T.n_list (by decide +kernel) (pa_cons (pe_ix ix_tup (pv 2) pe_int (fun _ _ => rfl)) pa_nil)) pa_nil))))))) pa_nil)) (nomark _)) (pss_one (ps_ret pe_bl)) pss_nil)
    (pss_cut (ps_for PassesOwn.never rfl (pi_list (pe_lstN (pa_cons pe_int (pa_cons pe_int (pa_cons pe_int (pa_cons pe_int (pa_cons pe_int (pa_cons pe_int (pa_cons (pe_call G_l_draw (hr.mono (by decide)) (by rfl) m_l_draw k_l_draw b_l_draw .nil pass0 (pa_cons (pv 0) (pa_cons (pe_op op_pow pe_int pe_int) pa_nil))) (pa_cons (pe_op op_pow pe_int pe_int) pa_nil)))))))))) (pg_name (i := 4) sc_l_right.nd rfl (Or.inl rfl))
      (pss_one (ps_if (pt_cmpR op_ne (pe_callB (call_reprQ gu ⟨_, hr⟩) (by rfl) T.n_repr (by decide +kernel) (pa_cons (pe_ownCall (pv 1) M_Rule_call Fi_Rule_call G_Rule_call b_Rule_call (hr.mono (by decide)) pass0 (pa_cons (pv 4) pa_nil)) pa_nil)) (pe_callB (call_reprQ gu ⟨_, hr⟩) (by rfl) T.n_repr (by decide +kernel) (pa_cons (pe_call G_l_value (hr.mono (by decide)) (by rfl) m_l_value k_l_value b_l_value .nil pass0 (pa_cons (pv 2) (pa_cons (pv 4) pa_nil))) pa_nil)) (nomark _)) (pss_one (ps_ret pe_bl)) pss_nil)))
    (pss_cut (ps_set (i := 5) sc_l_right.nd rfl (Or.inl rfl) (pe_op op_add_str (pe_op op_add_str (pe_op op_add_str (pe_op op_add_str (pe_join pe_str (pe_lc (own := [("_law_item", 8)]) (g := gName 8) (tt := tYes) rfl sc_l_right.nd (pi_tup (pe_ix ix_tup (pv 2) pe_int (fun _ _ => rfl))) (blkOk_by (own := [("_law_item", 8)]) (N := N_l_right) (sc := defScope s_l_right) (by decide +kernel)) (fun _ _ _ _ _ => pg_name (i := 8) sc_l_right.nd rfl (Or.inl rfl)) (fun _ _ _ _ _ => pts_nil) (fun _ _ _ _ _ => (pe_callTy call_str_int (by rfl) T.n_str (by decide +kernel) (pa_cons (pv 8) pa_nil))))) pe_str) (pe_callTy call_str_int (by rfl) T.n_str (by decide +kernel) (pa_cons (pe_ix ix_tup (pv 2) pe_int (fun _ _ => rfl)) pa_nil))) pe_str) (pe_callTy call_str_int (by rfl) T.n_str (by decide +kernel) (pa_cons (pe_ix ix_tup (pv 2) pe_int (fun _ _ => rfl)) pa_nil))))
    (pss_cons (ps_if (PW.pt (pw_or (pt_cmpR op_ne (pe_callTy (call_strO M_str G_str b_str (hr.mono (by decide)) pass0) (by rfl) T.n_str (by decide +kernel) (pa_cons (pv 1) pa_nil)) (pv 5) (nomark _)) (pw_or (pt_cmpR op_notBl (pe_cmpR (op_eqOQ M_eq G_eqT b_eq (hr.mono (by decide)) pass0) (pv 1) (pv 2) (nomark _)) pe_bl (nomark _)) (pw_or1 (pt_cmpR op_notBl (pe_cmpR (op_neO M_eq N_eq O_eq G_eq b_eq (hr.mono (by decide)) pass0) (pv 1) (pe_make Mk_Rule G_Rule_init (hr.mono (by decide)) (by rfl) g_Rule b_Rule_init .nil pass0 (pa_cons (pv 2) pa_nil)) (nomark _)) pe_bl (nomark _)))))) (pss_one (ps_ret pe_bl)) pss_nil)
    (pss_cut (ps_set (i := 6) sc_l_right.nd rfl (Or.inl rfl) (pe_tup (pa_cons (pe_ix ix_tup (pv 2) pe_int (fun _ _ => rfl)) (pa_cons (pe_ix ix_tup (pv 2) pe_int (fun _ _ => rfl)) (pa_cons (pe_op op_add (pe_ix ix_tup (pv 2) pe_int (fun _ _ => rfl)) pe_int) pa_nil)))))
    (pss_cut (ps_if (pt_cmpR op_notN (pe_call G_l_word (hr.mono (by decide)) (by rfl) m_l_word k_l_word b_l_word .nil pass0 (pa_cons (pv 6) pa_nil)) pe_non (nomark _)) (pss_one (ps_set (i := 6) sc_l_right.nd rfl (Or.inl rfl) (pe_tup (pa_cons (pe_tup (pa_cons pe_int pa_nil)) (pa_cons pe_int (pa_cons pe_int pa_nil)))))) pss_nil)
    (pss_cons (ps_set (i := 7) sc_l_right.nd rfl (Or.inl rfl) (pe_call G_l_one (hr.mono (by decide)) (by rfl) m_l_one k_l_one b_l_one .nil pass0 (pa_cons (pv 0) (pa_cons (pe_lstN (pa_cons (pe_un un_neg pe_int) (pa_cons pe_bl (pa_cons pe_non (pa_cons pe_str (pa_cons (pe_tup (pa_cons pe_int pa_nil)) (pa_cons (pe_lstN (pa_cons pe_int pa_nil)) (pa_cons pe_bl pa_nil)))))))) pa_nil))))
    (pss_one (ps_ret (pe_and (pe_cmpR op_eq (pe_callB (call_reprQ gu ⟨_, hr⟩) (by rfl) T.n_repr (by decide +kernel) (pa_cons (pe_cmpR (op_eqO M_eq G_eq b_eq (hr.mono (by decide)) pass0) (pv 1) (pe_make Mk_Rule G_Rule_init (hr.mono (by decide)) (by rfl) g_Rule b_Rule_init .nil pass0 (pa_cons (pv 6) pa_nil)) (nomark _)) pa_nil)) (pe_callB (call_reprQ gu ⟨_, hr⟩) (by rfl) T.n_repr (by decide +kernel) (pa_cons (pe_cmpR (op_eqD hr.units) (pv 2) (pv 6) (nomark _)) pa_nil)) (nomark _)) (pe_one (pe_callG G_l_no_amount gu (hr.mono (by decide)) (by rfl) m_l_no_amount k_l_no_amount b_l_no_amount (pa_cons (pv 1) (pa_cons (pv 7) pa_nil))))))))))))))), ?_⟩
  refine ⟨_, rfl, a, cRule, dx, _, _, rfl, ha, R.ins.cl, R.naV, rfl, _, rfl, a, cRule, dx, _, _, rfl, ha, R.ins.cl, R.naT, rfl, _, rfl, a, cRule, dx, _, _, rfl, ha, R.ins.cl, R.naP, rfl, _, rfl, a, cRule, dx, _, _, rfl, ha, R.ins.cl, R.naR, rfl, ?_⟩
  refine ⟨_, rfl, ?_⟩
  refine ⟨a, dx, _, rfl, ha, a, T0, q, r, rfl, O, _, rfl, by omega, by omega, ?_⟩
  refine ⟨_, rfl, a, dx, tv, _, T0.map V.int, rfl, ha, htv, by rw [lm]; omega, fun H1 Q1 s1 k1 => ?_, fun H1 Q1 s1 k1 => ?_, fun L H1 nL eL s1 hL => ?_⟩
  · exact ⟨a, dx, dv, tv, T0, q, r, rfl, s1 _ _ ha, s1 _ _ htv, k1⟩
  · exact ⟨a, T0, q, r, rfl, O.same s1, by rw [lm] at k1; exact k1⟩
  refine ⟨by show 6 ≤ sizeLine; decide, fun U nU eU => ?_⟩
  have s1 : Same H H1 := s1
  have sU := s1.trans (same_upd (o := .lst [.ref dv, .ref tv, .int (q : Int), .int r, .int (T0.length : Nat), .ref L]) nU)
  have hLU := same_upd (o := .lst [.ref dv, .ref tv, .int (q : Int), .int r, .int (T0.length : Nat), .ref L]) nU _ _ hL
  have big : ∀ n ∈ T0, n.natAbs.log2 < 1920 := fun n hn => by
    obtain ⟨i, hi, rfl⟩ := List.getElem_of_mem hn
    have b1 := so.nn i hi
    have b2 := bm.top i hi
    rw [List.getD_eq_getElem?_getD, List.getElem?_eq_getElem hi] at b1 b2
    exact small_log b1 (Int.le_trans b2 (by decide))
  have br := bm.r1
  obtain ⟨w1, w2, w3⟩ := told_shown (p := q) (r := r) big bl (small_log (by omega) (by omega)) (small_log r0 (by omega)) (small_log (by omega) (by omega))
  have hU : upd H1 U (.lst [.ref dv, .ref tv, .int (q : Int), .int r, .int (T0.length : Nat), .ref L]) U = some (.lst [.ref dv, .ref tv, .int (q : Int), .int r, .int (T0.length : Nat), .ref L]) := upd_same
  generalize upd H1 U (.lst [.ref dv, .ref tv, .int (q : Int), .int r, .int (T0.length : Nat), .ref L]) = H2 at hU hLU sU ⊢
  have O2 := O.same sU
  have D2 : Dq K H2 (.ref U) (toldD T0 q r) := .lst hU eU (.cons (dq_rule ⟨tv, sU _ _ hdv, sU _ _ htv⟩) (.cons (.tup (sU _ _ htv) (dqa_of T0)) (.cons (.int _) (.cons (.int _) (.cons (.int _) (.cons (.lst hLU eL (dqa_of T0)) .nil))))))
  have R2 := RA.same sU
  have hd2 := sU _ _ hd
  have ht2 := sU _ _ ht
  refine ⟨_, rfl, _, toldD T0 q r, rfl, D2, w1, w2, w3, ?_⟩
  refine ⟨_, rfl, _, rfl, _, _, _, _, rfl, rfl, SqT.of hd2, atI_nat (j := 0) rfl, _, rfl, _, _, _, _, rfl, rfl, SqT.of hd2, atI_nat (j := 1) rfl, _, rfl, _, _, _, _, rfl, rfl, SqT.of hd2, atI_nat (j := 2) rfl, _, rfl, _, _, _, _, rfl, rfl, SqT.of hd2, atI_nat (j := 0) rfl, _, _, rfl, .inr (SqT.of ht2), _, rfl, _, _, _, _, rfl, rfl, SqT.of hd2, atI_nat (j := 0) rfl, t, _, rfl, ht2, fun L2 nL2 eL2 => ⟨by show 6 ≤ sizeLine; decide, fun U2 nU2 eU2 => ?_⟩⟩
  rw [lm]
  have s22 := (same_upd (o := .lst (T0.map V.int)) nL2).trans (same_upd (o := .lst [.ref d, .ref t, .int (q : Int), .int r, .int (T0.length : Nat), .ref L2]) nU2)
  have hL2 := same_upd (o := .lst [.ref d, .ref t, .int (q : Int), .int r, .int (T0.length : Nat), .ref L2]) nU2 _ _ (upd_same (H := H2) (a := L2) (o := .lst (T0.map V.int)))
  have hU2 : upd (upd H2 L2 (.lst (T0.map V.int))) U2 (.lst [.ref d, .ref t, .int (q : Int), .int r, .int (T0.length : Nat), .ref L2]) U2 = some (.lst [.ref d, .ref t, .int (q : Int), .int r, .int (T0.length : Nat), .ref L2]) := upd_same
  generalize upd (upd H2 L2 (.lst (T0.map V.int))) U2 (.lst [.ref d, .ref t, .int (q : Int), .int r, .int (T0.length : Nat), .ref L2]) = H3 at s22 hL2 hU2 ⊢
  have s3 := sU.trans s22
  have D3 : Dq K H3 (.ref U2) (toldD T0 q r) := .lst hU2 eU2 (.cons (dq_rule (RA.same s3)) (.cons (.tup (s3 _ _ ht) (dqa_of T0)) (.cons (.int _) (.cons (.int _) (.cons (.int _) (.cons (.lst hL2 eL2 (dqa_of T0)) .nil))))))
  refine ⟨_, _, rfl, D3, w1, w2, w3, rfl, _, rfl, iteNP rfl ?_⟩
  refine ⟨fun σ H' => ∃ (n' : Int) (v4 : Option V), σ = [some (.ref p), some (.ref a), some (.ref d), some (.ref U), v4, none, none, none, none] ∧ Fr p l H H' ∧ Deck H' p l n' ∧ n ≤ n' ∧ n' ≤ n + 2, ?_, ?_⟩
  · refine ⟨_, rfl, _, _, rfl, rfl, ⟨by decide, by decide, by decide⟩, p, l, n, _, rfl, D.same s3, n0, by omega, (by decide), (by decide), fun x7 H4 y0 y1 f4 D4 => ?_⟩
    refine ⟨_, _, rfl, rfl, ⟨by decide, by decide, by decide⟩, by show 8 ≤ sizeLine; decide, fun X nX eX => ?_⟩
    have sX := same_upd (o := .lst [.int 0, .int 1, .int 2, .int 3, .int 7, .int 20, .int x7, .int (10 ^ Int.toNat 30)]) nX
    have hX : upd H4 X (.lst [.int 0, .int 1, .int 2, .int 3, .int 7, .int 20, .int x7, .int (10 ^ Int.toNat 30)]) X = some (.lst [.int 0, .int 1, .int 2, .int 3, .int 7, .int 20, .int x7, .int (10 ^ Int.toNat 30)]) := upd_same
    generalize upd H4 X (.lst [.int 0, .int 1, .int 2, .int 3, .int 7, .int 20, .int x7, .int (10 ^ Int.toNat 30)]) = H5 at sX hX ⊢
    have f5 : Fr p l H H5 := (Same.fr s3).trans (f4.trans (Same.fr sX))
    have D5 := D4.same sX
    have O5 := O.fr f5 D
    have R5 := RA.fr f5 D
    refine ⟨X, rfl, ⟨_, SqL.of hX⟩, ?_⟩
    refine for_list (K := K) (a := X) (xs := [.int 0, .int 1, .int 2, .int 3, .int 7, .int 20, .int x7, .int (10 ^ Int.toNat 30)]) (fun i σ H' => ∃ v4 : Option V, σ = [some (.ref p), some (.ref a), some (.ref d), some (.ref U), v4, none, none, none, none] ∧ Same H5 H') ⟨none, rfl, Same.refl _⟩ (fun i σ H' _ h => by
      obtain ⟨_, _, s'⟩ := h
      exact SqL.of (s' _ _ hX)) ?_ ?_
    · rintro i x σ H6 hx ⟨v4, rfl, s6⟩
      obtain ⟨y, rfl, y1⟩ : ∃ y : Nat, x = .int (y : Int) ∧ (y : Int) ≤ 10 ^ 30 := by
        have hx := List.mem_of_getElem? hx
        simp only [List.mem_cons, List.not_mem_nil, or_false] at hx
        rcases hx with rfl | rfl | rfl | rfl | rfl | rfl | rfl | rfl
        · exact ⟨0, rfl, by decide⟩
        · exact ⟨1, rfl, by decide⟩
        · exact ⟨2, rfl, by decide⟩
        · exact ⟨3, rfl, by decide⟩
        · exact ⟨7, rfl, by decide⟩
        · exact ⟨20, rfl, by decide⟩
        · have y1 : x7 < 1000000 := y1
          exact ⟨x7.toNat, by rw [Int.toNat_of_nonneg y0], by rw [Int.toNat_of_nonneg y0]; omega⟩
        · exact ⟨10 ^ 30, rfl, by decide⟩
      have vs := int_shown (i := vl T0 q r y) (log_nn (so.pos y) (by have := RM.vl so bm (by decide) y; omega))
      obtain ⟨dx5, d5, t5, ha5, _, _⟩ := id O5
      refine ⟨_, rfl, a, rfl, _, rfl, .inr ⟨dx5, _, s6 _ _ ha5⟩, a, T0, q, r, y, rfl, O5.same s6, so, bm.rb (by decide), ?_⟩
      refine ⟨_, _, rfl, .int _, vs.1, vs.2.1, vs.2.2, _, rfl, _, rfl, d, T0, q, r, y, rfl, R5.same s6, so.w, bm.rb (by decide), ?_⟩
      exact ⟨_, _, rfl, .int _, vs.1, vs.2.1, vs.2.2, rfl, _, rfl, iteNP rfl ⟨_, rfl, s6⟩⟩
    · rintro σ H6 ⟨v4, rfl, s6⟩
      exact ⟨n + 1, v4, rfl, f5.trans (Same.fr s6), D5.same s6, by omega, by omega⟩
  rintro σ H6 ⟨n', v4, rfl, f6, D6, m0, m1⟩
  have O6 := O.fr f6 D
  have R6 := RA.fr f6 D
  clear hU hLU sU D2 O2 R2 hd2 ht2 s22 hL2 hU2 s3 D3
  obtain ⟨t6, hd6, ht6⟩ := id R6
  have sm : SmI T0 := ⟨bl, fun i hi => ⟨so.nn i hi, by have := bm.top i hi; omega⟩⟩
  have sl := spT_len sm
  have pl := PyProof.Rows.int_text_len_1921 (small_log (i := (q : Int)) (by omega) (by omega))
  have rl := PyProof.Rows.int_text_len_1921 (small_log r0 (by omega))
  have b300 : 300000 ≤ sizeLine := by decide
  have c3 : ((" | " : Str)).length = 3 := rfl
  have c1 : ((" " : Str)).length = 1 := rfl
  have b2 : (spT T0 ++ (" | " : Str)).length ≤ 200003 := by
    rw [PySem.Str.length_append]
    omega
  have b3 : (spT T0 ++ (" | " : Str) ++ (toString (q : Int) : Str)).length ≤ 210000 := by
    rw [PySem.Str.length_append]
    omega
  have b4 : (spT T0 ++ (" | " : Str) ++ (toString (q : Int) : Str) ++ (" " : Str)).length ≤ 210001 := by
    rw [PySem.Str.length_append]
    omega
  refine ⟨fun σ H' => σ = [some (.ref p), some (.ref a), some (.ref d), some (.ref U), v4, some (.str (ruT T0 q r)), none, none, none] ∧ Same H6 H', ?_, ?_⟩
  · refine ⟨⟨_, rfl⟩, _, rfl, _, _, _, _, rfl, rfl, SqT.of hd6, atI_nat (j := 0) rfl, t6, rfl, ⟨_, SqT.of ht6⟩, fun Z nZ => ?_⟩
    refine lc_mT (fun i => .str (toString (T0.getD i 0))) ht6 nZ (by omega) ?_ gName_mono ?_
    · intro i x H' hx s' R' hR
      have hi : i < T0.length := by
        have := (List.getElem?_eq_some_iff.mp hx).1
        rwa [lm] at this
      rw [get_int hi] at hx
      have hx := (Option.some.inj hx).symm
      subst hx
      have b := sm.2 i hi
      exact ⟨rfl, _, rfl, _, rfl, small_log b.1 b.2, hR H' (Same.refl _)⟩
    intro H7 s7 hZ
    have hZ : H7 Z = some (.lst ((itx T0).map V.str)) := by
      rw [hZ, lm]
      congr 2
      refine List.ext_getElem? fun i => ?_
      by_cases hi : i < T0.length
      · rw [List.getElem?_map, List.getElem?_map, List.getElem?_range hi, itx_get hi]
        rfl
      · rw [List.getElem?_eq_none (by rw [List.length_map, List.length_range]; omega), List.getElem?_eq_none (by unfold itx; rw [List.length_map, List.length_map]; omega)]
    have b := itx_len sm.2
    have c : (itx T0).length = T0.length := by unfold itx; rw [List.length_map]
    have hd7 := s7 _ _ hd6
    refine ⟨_, Z, itx T0, rfl, rfl, .inl (SqL.of hZ), by rw [c, c1]; omega, _, _, rfl, rfl, ?_, ?_⟩
    · show (spT T0).length + ((" | " : Str)).length ≤ sizeLine
      omega
    refine ⟨_, rfl, _, _, _, _, rfl, rfl, SqT.of hd7, atI_nat (j := 1) rfl, _, rfl, small_log (by omega) (by omega), _, _, rfl, rfl, ?_, ?_⟩
    · show (spT T0 ++ (" | " : Str)).length + (toString (q : Int) : Str).length ≤ sizeLine
      omega
    refine ⟨_, _, rfl, rfl, ?_, ?_⟩
    · show (spT T0 ++ (" | " : Str) ++ (toString (q : Int) : Str)).length + ((" " : Str)).length ≤ sizeLine
      omega
    refine ⟨_, rfl, _, _, _, _, rfl, rfl, SqT.of hd7, atI_nat (j := 2) rfl, _, rfl, small_log r0 (by omega), _, _, rfl, rfl, ?_, ?_⟩
    · show (spT T0 ++ (" | " : Str) ++ (toString (q : Int) : Str) ++ (" " : Str)).length + (toString r : Str).length ≤ sizeLine
      omega
    exact ⟨rfl, s7⟩
  rintro σ H7 ⟨rfl, s7⟩
  have O7 := O6.same s7
  have R7 := R6.same s7
  obtain ⟨dx7, d7, t7, ha7, hd7, ht7⟩ := id O7
  refine ⟨_, rfl, a, dx7, _, rfl, ha7, a, T0, q, r, rfl, O7, sm, by omega, r0, by omega, fun H8 s8 => ?_⟩
  refine ⟨_, rfl, _, rfl, rfl, _, rfl, iteNP rfl ?_⟩
  have O8 := O7.same s8
  have R8 := R7.same s8
  have ha8 := s8 _ _ ha7
  refine ⟨_, rfl, _, rfl, a, dx7, _, _, rfl, ha8, dq_rule R8, R.subT, a, _, _, T0, q, r, rfl, O8, dq_rule R8, ?_⟩
  refine ⟨_, _, rfl, rfl, _, rfl, iteNP rfl ?_⟩
  refine ⟨_, rfl, _, rfl, new_rule R8 sh (bm.rb (by decide)) (by omega) fun z H9 s9 O9 => ?_⟩
  obtain ⟨dz, d9, t9, hz, _⟩ := id O9
  refine ⟨a, dx7, _, z, dz, _, rfl, rfl, s9 _ _ ha8, hz, a, z, T0, T0, q, q, r, r, rfl, O8.same s9, O9, ?_⟩
  refine ⟨_, rfl, _, _, rfl, rfl, _, rfl, ?_⟩
  rw [decide_eq_true (⟨rfl, rfl, rfl⟩ : T0 = T0 ∧ q = q ∧ r = r)]
  refine iteNP rfl ?_
  have s79 := s8.trans s9
  have R9 := R8.same s9
  have O9' := O8.same s9
  clear R8 O8 R7 O7
  refine ⟨fun σ H' => ∃ o : Addr, σ = [some (.ref p), some (.ref a), some (.ref d), some (.ref U), v4, some (.str (ruT T0 q r)), some (.ref o), none, none] ∧ Same H9 H' ∧ RuleAt H' o T0 q (r + 1), ?_, ?_⟩
  · obtain ⟨t9, hd9, ht9⟩ := R9
    refine ⟨_, rfl, _, _, _, _, rfl, rfl, SqT.of hd9, atI_nat (j := 0) rfl, _, rfl, _, _, _, _, rfl, rfl, SqT.of hd9, atI_nat (j := 1) rfl, _, rfl, _, _, _, _, rfl, rfl, SqT.of hd9, atI_nat (j := 2) rfl, _, _, rfl, rfl, by show 3 ≤ sizeLine; decide, fun o no => ?_⟩
    have so' := same_upd (o := .tup [.ref t9, .int (q : Int), .int (r + 1)]) no
    exact ⟨o, rfl, so', t9, upd_same, so' _ _ ht9⟩
  rintro σ H10 ⟨o, rfl, s10, R10⟩
  have w10 : RuleW T0 q (r + 1) := ⟨p0, p1, by omega⟩
  have b10 : RM 1000001 T0 q (r + 1) := ⟨bl, by omega, fun i hi => by have := bm.top i hi; omega⟩
  refine ⟨fun σ H' => ∃ (o : Addr) (T' : List Int) (q' : Nat) (r' : Int), σ = [some (.ref p), some (.ref a), some (.ref d), some (.ref U), v4, some (.str (ruT T0 q r)), some (.ref o), none, none] ∧ Same H9 H' ∧ RuleAt H' o T' q' r' ∧ Short T' q' r' ∧ RB T' q' r' ∧ T'.length ≤ 60, ?_, ?_⟩
  · refine ⟨_, rfl, o, T0, q, r + 1, 1000001, rfl, R10, w10, b10, by decide, by decide, so.nn, fun w H11 s11 wd => ⟨rfl, _, rfl, ?_⟩⟩
    have s911 := s10.trans s11
    have R11 := R10.same s11
    rcases wd with ⟨_, rfl⟩ | ⟨ok, ⟨_, rfl⟩ | ⟨sh2, rfl⟩⟩
    · refine iteNN (fun e => nomatch e) ⟨by show 1 ≤ sizeLine; decide, fun e ne1 => ⟨by show 3 ≤ sizeLine; decide, fun o2 no2 => ?_⟩⟩
      have se := same_upd (o := .tup [.int 9]) ne1
      have s2 := same_upd (o := .tup [.ref e, .int 1, .int 9]) no2
      exact ⟨o2, [9], 1, 9, rfl, s911.trans (se.trans s2), ⟨e, upd_same, s2 _ _ upd_same⟩, short_nine, rb_nine, by decide⟩
    · refine iteNN (fun e => nomatch e) ⟨by show 1 ≤ sizeLine; decide, fun e ne1 => ⟨by show 3 ≤ sizeLine; decide, fun o2 no2 => ?_⟩⟩
      have se := same_upd (o := .tup [.int 9]) ne1
      have s2 := same_upd (o := .tup [.ref e, .int 1, .int 9]) no2
      exact ⟨o2, [9], 1, 9, rfl, s911.trans (se.trans s2), ⟨e, upd_same, s2 _ _ upd_same⟩, short_nine, rb_nine, by decide⟩
    · refine iteNP rfl ?_
      exact ⟨o, T0, q, r + 1, rfl, s911, R11, sh2, b10.rb (by decide), bl⟩
  rintro σ H11 ⟨o, T', q', r', rfl, s11, R11, sh', rb', l'⟩
  refine ⟨_, rfl, _, rfl, by show 1 ≤ sizeLine; decide, fun e1 ne1 => ⟨by show 1 ≤ sizeLine; decide, fun e2 ne2 ee2 => ⟨by show 7 ≤ sizeLine; decide, fun L3 nL3 eL3 => ?_⟩⟩⟩
  have v1 := same_upd (o := .tup [.int 1]) ne1
  have v2 := same_upd (o := .lst [.int 1]) ne2
  have v3 := same_upd (o := .lst [.int (-1), .bl true, .non, .str "1", .ref e1, .ref e2, .bl false]) nL3
  have h1 := (v2.trans v3) _ _ (upd_same (H := H11) (a := e1) (o := .tup [.int 1]))
  have h2 := v3 _ _ (upd_same (H := upd H11 e1 (.tup [.int 1])) (a := e2) (o := .lst [.int 1]))
  have vv := v1.trans (v2.trans v3)
  have s12 := (s79.trans s11).trans vv
  have f12 : Fr p l H _ := f6.trans ((Same.fr s7).trans (Same.fr s12))
  have D12 := (D6.same s7).same s12
  have lne := (D6.same s7).same ((s79.trans s11).trans (v1.trans v2)) |>.lne nL3
  have hL3 : upd (upd (upd H11 e1 (.tup [.int 1])) e2 (.lst [.int 1])) L3 (.lst [.int (-1), .bl true, .non, .str "1", .ref e1, .ref e2, .bl false]) L3 = some (.lst [.int (-1), .bl true, .non, .str "1", .ref e1, .ref e2, .bl false]) := upd_same
  have m1 : e1 ≠ p ∧ e1 ≠ l := ((D6.same s7).same (s79.trans s11)).lne ne1
  have m2 : e2 ≠ p ∧ e2 ≠ l := ((D6.same s7).same ((s79.trans s11).trans v1)).lne ne2
  have O12 := O9'.same (s11.trans vv)
  have R12 := R11.same vv
  have RR := R9.same (s11.trans vv)
  generalize upd (upd (upd H11 e1 (.tup [.int 1])) e2 (.lst [.int 1])) L3 (.lst [.int (-1), .bl true, .non, .str "1", .ref e1, .ref e2, .bl false]) = H12 at *
  refine ⟨p, l, L3, n', _, rfl, D12, by omega, by omega, hL3, lne.1, lne.2, by show 0 < 7; decide, by show 7 ≤ 1000; decide, fun x H13 hx f13 D13 => ?_⟩
  have h1 := f13 _ _ m1.1 m1.2 h1
  have h2 := f13 _ _ m2.1 m2.2 h2
  obtain ⟨dw, hdw, am, sml⟩ : ∃ dw, Dq K H13 x dw ∧ amB dw = false ∧ Sml 3 300 dw := by
    simp only [List.mem_cons, List.not_mem_nil, or_false] at hx
    rcases hx with rfl | rfl | rfl | rfl | rfl | rfl | rfl
    · exact ⟨_, .int _, rfl, by decide +kernel, by decide +kernel, by decide +kernel⟩
    · exact ⟨_, .bl _, rfl, by decide +kernel, by decide +kernel, by decide +kernel⟩
    · exact ⟨_, .non, rfl, by decide +kernel, by decide +kernel, by decide +kernel⟩
    · exact ⟨_, .str _, rfl, by decide +kernel, by decide +kernel, by decide +kernel⟩
    · exact ⟨_, .tup h1 (.cons (.int _) .nil), rfl, by decide +kernel, by decide +kernel, by decide +kernel⟩
    · exact ⟨_, .lst h2 ee2 (.cons (.int _) .nil), rfl, by decide +kernel, by decide +kernel, by decide +kernel⟩
    · exact ⟨_, .bl _, rfl, by decide +kernel, by decide +kernel, by decide +kernel⟩
  have O13 := O12.fr f13 D12
  have R13 := R12.fr f13 D12
  have RR13 := RR.fr f13 D12
  obtain ⟨dx13, d13, t13, ha13, _, _⟩ := id O13
  refine ⟨_, rfl, _, rfl, new_rule R13 sh' rb' (by omega) fun z H14 s14 O14 => ?_⟩
  obtain ⟨dz, d14, t14, hz, _⟩ := id O14
  have bs := bl_shown (decide (T0 = T' ∧ q = q' ∧ r = r'))
  refine ⟨a, dx13, _, z, dz, _, rfl, rfl, s14 _ _ ha13, hz, a, z, T0, T', q, q', r, r', rfl, O13.same s14, O14, ?_⟩
  refine ⟨_, .bool _, rfl, .bl _, bs.1, bs.2.1, bs.2.2, _, rfl, _, rfl, _, _, dp_rule (RR13.same s14), dp_rule (R13.same s14), shp _ _ _, shp _ _ _, ?_⟩
  rw [ruD_eqv]
  refine ⟨_, .bool _, rfl, .bl _, bs.1, bs.2.1, bs.2.2, rfl, _, rfl, ?_⟩
  rw [decide_eq_true rfl]
  refine iteT ?_
  refine ⟨_, rfl, _, rfl, a, x, dw, T0, q, r, rfl, O13.same s14, so, bm.rb (by decide), hdw.same s14, am, sml, fun H15 s15 => ?_⟩
  exact kk H15 (n' + 1) (f12.trans (f13.trans (Same.fr (s14.trans s15)))) (D13.same (s14.trans s15)) (by omega) (by omega)
end
end Sm

set_option Elab.async false
set_option linter.all false
set_option maxRecDepth 100000
set_option maxHeartbeats 16000000
namespace Sm
open PySem PySem.Spec PyProof.Rows L2 LamX
open C8 (pss_cut tCut)
abbrev lamP : Arguments := { posonlyargs := [], args := [], vararg := none, kwonlyargs := [], kw_defaults := [], kwarg := none, defaults := [] }
theorem extTup {H H' : Hp} (e : ExtN H H') {b : Addr} {xs : List V} (h : H b = some (.tup xs)) : H' b = some (.tup xs) := e _ _ h fun ps z => by cases z
theorem extLst {H H' : Hp} (e : ExtN H H') {b : Addr} {xs : List V} (h : H b = some (.lst xs)) : H' b = some (.lst xs) := e _ _ h fun ps z => by cases z
theorem Deck.ext {H H' : Hp} {p l : Addr} {n : Int} (D : Deck H p l n) (e : ExtN H H') : Deck H' p l n := by
  obtain ⟨cells, q1, q2⟩ := D.hl
  exact ⟨extLst e D.hp, cells, extLst e q1, q2⟩
theorem Tabs.fr {H H' : Hp} {p l : Addr} {n : Int} {TT : List (Addr × Str)} (t : Tabs TT H) (f : Fr p l H H') (D : Deck H p l n) : Tabs TT H' := by
  obtain ⟨cells, hl, _⟩ := D.hl
  have hp := D.hp
  intro x hx
  obtain ⟨ps, h1, h2, h3⟩ := t x hx
  have n1 : x.1 ≠ p := fun e => by
    rw [e, hp] at h1
    cases h1
  have n2 : x.1 ≠ l := fun e => by
    rw [e, hl] at h1
    cases h1
  refine ⟨ps, f _ _ n1 n2 h1, h2, fun pos cv hc => ?_⟩
  obtain ⟨c, rfl, hcd⟩ := h3 pos cv hc
  refine ⟨c, rfl, f _ _ (fun e => ?_) (fun e => ?_) hcd⟩
  · rw [e, hp] at hcd
    cases hcd
  · rw [e, hl] at hcd
    cases hcd
theorem Tabs.app {H : Hp} {U : Addr} {xs ys : List V} {TT : List (Addr × Str)} (t : Tabs TT H) (hU : H U = some (.lst xs)) : Tabs TT (upd H U (.lst ys)) := by
  intro x hx
  obtain ⟨ps, h1, h2, h3⟩ := t x hx
  have n1 : x.1 ≠ U := fun e => by
    rw [e, hU] at h1
    cases h1
  refine ⟨ps, by rw [upd_ne n1]; exact h1, h2, fun pos cv hc => ?_⟩
  obtain ⟨c, rfl, hcd⟩ := h3 pos cv hc
  have n2 : c ≠ U := fun e => by
    rw [e, hU] at hcd
    cases hcd
  exact ⟨c, rfl, by rw [upd_ne n2]; exact hcd⟩
/-- all but the deck and the tables stay -/
def FrN (p l : Addr) (H H' : Hp) : Prop := ∀ b o, b ≠ p → b ≠ l → H b = some o → (∀ ps, o ≠ .tbl ps) → H' b = some o
theorem FrN.trans {p l : Addr} {H H1 H2 : Hp} (a : FrN p l H H1) (b : FrN p l H1 H2) : FrN p l H H2 := fun c o h1 h2 h n => b c o h1 h2 (a c o h1 h2 h n) n
theorem FrN.ext {p l : Addr} {H H' : Hp} (e : ExtN H H') : FrN p l H H' := fun b o _ _ h n => e b o h n
theorem FrN.of {p l : Addr} {H H' : Hp} (e : Fr p l H H') : FrN p l H H' := fun b o h1 h2 h _ => e b o h1 h2 h
theorem FrN.tup {p l b : Addr} {n : Int} {H H' : Hp} {xs : List V} (f : FrN p l H H') (D : Deck H p l n) (h : H b = some (.tup xs)) : H' b = some (.tup xs) := by
  obtain ⟨cells, hl, _⟩ := D.hl
  have hp := D.hp
  refine f _ _ (fun e => ?_) (fun e => ?_) h fun ps z => by cases z
  · rw [e, hp] at h; cases h
  · rw [e, hl] at h; cases h
theorem RuleAt.frN {H H' : Hp} {d p l : Addr} {n : Int} {T : List Int} {q : Nat} {r : Int} (h : RuleAt H d T q r) (f : FrN p l H H') (D : Deck H p l n) : RuleAt H' d T q r := by
  obtain ⟨t, h1, h2⟩ := h
  exact ⟨t, f.tup D h1, f.tup D h2⟩
mutual
theorem Dq.ext {K : PySem.W.Frag} {H H' : Hp} (e : ExtN H H') : ∀ {d : PyData} {v : V}, Dq K H v d → Dq K H' v d
  | _, _, .non => .non
  | _, _, .bl b => .bl b
  | _, _, .int i => .int i
  | _, _, .str x => .str x
  | _, _, .lst hs ne ha => .lst (extLst e hs) ne (Dq.extAll e ha)
  | _, _, .tup hs ha => .tup (extTup e hs) (Dq.extAll e ha)
  | _, _, .dic kvs hk => .dic kvs (e _ _ hk fun ps z => by cases z)
theorem Dq.extAll {K : PySem.W.Frag} {H H' : Hp} (e : ExtN H H') : ∀ {ds : List PyData} {vs : List V}, DqAll K H vs ds → DqAll K H' vs ds
  | _, _, .nil => .nil
  | _, _, .cons h1 h2 => .cons (Dq.ext e h1) (Dq.extAll e h2)
end
/-! ### values that stay while others change -/
def FrB (B : Addr → Prop) (H H' : Hp) : Prop := ∀ b o, ¬ B b → H b = some o → (∀ ps, o ≠ .tbl ps) → H' b = some o
theorem FrB.trans {B : Addr → Prop} {H H1 H2 : Hp} (a : FrB B H H1) (b : FrB B H1 H2) : FrB B H H2 := fun c o n h t => b c o n (a c o n h t) t
theorem FrB.ext {B : Addr → Prop} {H H' : Hp} (e : ExtN H H') : FrB B H H' := fun b o _ h t => e b o h t
theorem FrB.put {B : Addr → Prop} {H : Hp} {u : Addr} {o : HO} (hu : B u) : FrB B H (upd H u o) := fun b x n h _ => by
  rw [upd_ne fun e => n (by rw [e]; exact hu)]
  exact h
def Stv (K : PySem.W.Frag) (B : Addr → Prop) (H : Hp) (x : V) (d : PyData) : Prop := ∀ H'', FrB B H H'' → Dq K H'' x d
def Svs (K : PySem.W.Frag) (B : Addr → Prop) (H : Hp) (xs : List V) (ds : List PyData) : Prop := ∀ H'', FrB B H H'' → DqAll K H'' xs ds
section
variable {K : PySem.W.Frag} {B : Addr → Prop} {H H' : Hp} {b : Addr} {x : V} {xs : List V} {d : PyData} {ds : List PyData}
theorem Stv.mono (h : Stv K B H x d) (f : FrB B H H') : Stv K B H' x d := fun H'' g => h H'' (f.trans g)
theorem Stv.now (h : Stv K B H x d) : Dq K H x d := h H fun _ _ _ e _ => e
theorem Stv.non : Stv K B H .non .none := fun _ _ => .non
theorem Stv.bl {k : Bool} : Stv K B H (.bl k) (.bool k) := fun _ _ => .bl k
theorem Stv.int {i : Int} : Stv K B H (.int i) (.int i) := fun _ _ => .int i
theorem Stv.str {s : Str} : Stv K B H (.str s) (.str s) := fun _ _ => .str s
theorem Stv.tup (h : H b = some (.tup xs)) (n : ¬ B b) (s : Svs K B H xs ds) : Stv K B H (.ref b) (.tuple ds) := fun H'' g => .tup (g _ _ n h fun ps z => by cases z) (s H'' g)
theorem Stv.lst (h : H b = some (.lst xs)) (n : ¬ B b) (e : (b == sysModules) = false) (s : Svs K B H xs ds) : Stv K B H (.ref b) (.list ds) := fun H'' g => .lst (g _ _ n h fun ps z => by cases z) e (s H'' g)
theorem Svs.nil : Svs K B H [] [] := fun _ _ => .nil
theorem Svs.cons (h : Stv K B H x d) (t : Svs K B H xs ds) : Svs K B H (x :: xs) (d :: ds) := fun H'' g => .cons (h H'' g) (t H'' g)
theorem Svs.ints {T : List Int} : Svs K B H (T.map V.int) (T.map PyData.int) := fun _ _ => dqa_of T
theorem Svs.app {ys : List V} {es : List PyData} (h : Svs K B H xs ds) (t : Svs K B H ys es) : Svs K B H (xs ++ ys) (ds ++ es) := fun H'' g => by
  have a := h H'' g
  have b := t H'' g
  clear h t g
  induction xs generalizing ds with
  | nil => cases a; exact b
  | cons x xs ih => cases a with | cons a1 a2 => exact .cons a1 (ih a2)
/-- what stands on new things stays -/
theorem Stv.new {H0 : Hp} (h : DqN K H0 H' x d) (n : ∀ b, B b → H0 b ≠ none) : Stv K B H' x d := by
  intro H'' g
  have e0 : Dq K (fun b => if H0 b = none then H' b else none) x d := h _ fun b o e1 e2 => by rw [if_pos e1]; exact e2
  refine Dq.ext (fun b o e t => ?_) e0
  by_cases c : H0 b = none
  · rw [if_pos c] at e
    exact g _ _ (fun hb => n b hb c) e t
  · rw [if_neg c] at e
    cases e
end
/-- no rule of the right form -/
structure NF (d : PyData) : Prop where
  form : ∀ T p r, d = ruD T p r → FormOk T (p : Int) r → False
  len : ∀ ds dp dr, d = .tuple [.tuple ds, dp, dr] → ds.length ≤ 5000
theorem formOk_of {T : List Int} {p : Nat} {r : Int} (o : RuleOk T p r) : FormOk T (p : Int) r := ⟨by have := o.p0; omega, by have := o.p1; omega, o.r0, o.nn⟩
theorem NF.bd {d : PyData} (h : NF d) : Bd d := ⟨h.len, fun T p r e o => (h.form T p r e (formOk_of o)).elim⟩
theorem NF.vd {d : PyData} {w : V} (h : NF d) (v : Vd d w) : w = .str "form" := by
  rcases v with ⟨_, e⟩ | ⟨T, p, r, e, f, _⟩
  · exact e
  · exact (h.form T p r e f).elim
theorem nf_other {d : PyData} (h : ∀ a b c, d ≠ .tuple [.tuple a, b, c]) : NF d := ⟨fun T p r e _ => h _ _ _ (by rw [e]; rfl), fun ds dp dr e => (h _ _ _ e).elim⟩
theorem nf_three {ds : List PyData} {b c : PyData} (l : ds.length ≤ 5000) (h : ∀ T (p : Nat) r, ds = T.map PyData.int → b = .int p → c = .int r → FormOk T (p : Int) r → False) : NF (.tuple [.tuple ds, b, c]) := by
  refine ⟨fun T p r e f => ?_, fun ds' dp dr e => ?_⟩
  · unfold ruD at e
    injection e with e
    injection e with e1 e
    injection e with e2 e
    injection e with e3 e
    injection e1 with e1
    exact h T p r e1 e2 e3 f
  · injection e with e
    injection e with e1 e
    injection e1 with e1
    rw [← e1]
    exact l
/-- a value that Rule refuses for its form -/
def Itv (K : PySem.W.Frag) (cRule : Addr) (B : Addr → Prop) (H : Hp) (x : V) : Prop := (∃ d, Stv K B H x d ∧ NF d) ∨ ∃ (b dx : Addr) (fs : List (Str × V)), x = .ref b ∧ ¬ B b ∧ H b = some (.ins cRule dx fs)
theorem Itv.mono {K : PySem.W.Frag} {cRule : Addr} {B : Addr → Prop} {H H' : Hp} {x : V} (h : Itv K cRule B H x) (f : FrB B H H') : Itv K cRule B H' x := by
  rcases h with ⟨d, h1, h2⟩ | ⟨b, dx, fs, h1, h2, h3⟩
  · exact .inl ⟨d, h1.mono f, h2⟩
  · exact .inr ⟨b, dx, fs, h1, h2, f _ _ h2 h3 fun ps z => by cases z⟩
/-- both promises of one def -/
theorem fn_or {P : Program} {w : World} {K : PySem.W.Frag} {mg : Str → Option Value} {base : Heap} {CX : CXT} {k : Nat} {f : Addr} {fd : FuncData} {ps : List Str} {sp1 sp2 : Sp} (F1 : FnOk P w K mg base CX k f fd ps sp1) (F2 : FnOk P w K mg base CX k f fd ps sp2) : FnOk P w K mg base CX k f fd ps (fun vs H Q E => sp1 vs H Q E ∨ sp2 vs H Q E) :=
  ⟨fun vs H Q E h => h.elim (F1.len vs H Q E) (F2.len vs H Q E), fun A outer s H args us vs Q E hr e0 hb hv h => h.elim (F1.run A outer s H args us vs Q E hr e0 hb hv) (F2.run A outer s H args us vs Q E hr e0 hb hv)⟩
def sp_RinitX (K : PySem.W.Frag) (cRule cB : Addr) : Sp := fun vs H Q E => sp_Rinit K cRule cB vs H Q E ∨ sp_RinitO cRule cB vs H Q E
section
variable {P : Program} {w : World} {K : PySem.W.Frag} {mg : Str → Option Value} {base : Heap} {TT : List (Addr × Str)} {cBadRule cNoAmount fB fN cRule fRi fEq fLen fIt fStr fCa fOf pOf cChangeError : Addr}
abbrev s_l_refused : Stmt := topS 53
abbrev N_l_refused : List Str := ["_law_deck_here", "_law_rule", "_law_table", "_law_period", "_law_rise", "_law_values", "_law_wrong", "_law_value_here"]
theorem sc_l_refused : FnScope N_l_refused ["_law_deck_here", "_law_rule"] (defScope s_l_refused) := ⟨rfl, rfl, rfl, by decide +kernel, rfl, by decide +kernel, by decide +kernel⟩
abbrev X_l_refused (P : Program) (w : World) (K : PySem.W.Frag) (mg : Str → Option Value) (base : Heap) (f c : Addr) (A : Around) (outer : List Env) (s : Shared) (H : Hp) (E : XK) : Cx := (cxOf CX0 P w K mg base N_l_refused "_law_refused" (defScope s_l_refused) f (.ref c) A outer s H E).nox
abbrev q_l_refused : Str := ("_law_refused" : Str) ++ (".<locals>." : Str) ++ ("<lambda>" : Str)
theorem pe_bad_l_refused {f c Pt : Addr} {A : Around} {outer : List Env} {s : Shared} {H : Hp} {E : XK} {body e2 : Expr} {cB : Addr} {te : XK → TE} {tv : L2.St → V → Prop} {p1 p6 p7 : Pos} (D : Df K mg "_law_is_bad" s_l_is_bad ["_law_call", "_law_word_here"])
    (hG : ∀ (g : Addr) (cdg : Value), Gives2 (X_l_refused P w K mg base f c A outer s H E) N_l_is_bad "_law_is_bad" (defScope s_l_is_bad) g cdg (defBody s_l_is_bad) "_law_call" q_l_refused (TBd K cB))
    (TB : TabB base mg c Pt) {TT : List (Addr × Str)} (hmT : (Pt, q_l_refused) ∈ TT) (hu : ∀ p ∈ TT, p.1 = Pt → p.2 = q_l_refused) (hr : Room 10 (X_l_refused P w K mg base f c A outer s H E).A)
    {sc : Scope} (hL : lamSB (defScope s_l_refused) sc = true) (hbody : ∀ (A' : Around) (outer' : List Env) (s' : Shared) (H' : Hp) (E' : XK) (f' c' : Addr), Room 8 (A'.deeper (lamEnv (X_l_refused P w K mg base f c A outer s H E) sc s'.heap.objs.size f' c')) → PE (lamCx (X_l_refused P w K mg base f c A outer s H E) A' outer' s' H' E' sc f' c') body (te E'))
    (st : Still (X_l_refused P w K mg base f c A outer s H E) e2 tv)
    (hs : ∀ ps : Pos, backTo ps (starEach [.Lambda lamP body sc p6, e2] (X_l_refused P w K mg base f c A outer s H E).env) = backTo ps ((false, eval (.Lambda lamP body sc p6) (X_l_refused P w K mg base f c A outer s H E).env) :: (false, eval e2 (X_l_refused P w K mg base f c A outer s H E).env) :: starEach [] (X_l_refused P w K mg base f c A outer s H E).env) := by intro _; rfl)
    (he : starEach [.Lambda lamP body sc p6, e2] (X_l_refused P w K mg base f c A outer s H E).env = (false, eval (.Lambda lamP body sc p6) (X_l_refused P w K mg base f c A outer s H E).env) :: starEach [e2] (X_l_refused P w K mg base f c A outer s H E).env := by rfl) (hpl : (backTo p7 (starEach [e2] (X_l_refused P w K mg base f c A outer s H E).env)).any (·.1) = false := by rfl) :
    PE (X_l_refused P w K mg base f c A outer s H E) (.Call (.Name "_law_is_bad" p1) [.Lambda lamP body sc p6, e2] [] p7) (tLam2E TT (TBd K cB) te tv) := by
  obtain ⟨g, fd, F, m, bd⟩ := D
  obtain ⟨oc, od, kV, doc, pm, an, cdv, ct, osl, rfl, look, coded⟩ := F.ex
  exact pe_lamcall2E (T := TT) (k := 8) (Ng := N_l_is_bad) rfl m F.kp look coded bd sc_l_is_bad rfl (by first | exact Or.inl rfl | exact Or.inr (Or.inl rfl) | exact Or.inr (Or.inr rfl)) (hG g cdv) TB rfl hmT hu hr (lamS_by hL) rfl (fun _ _ _ _ _ => rfl) (fun A' outer' s' H' E' f' c' hr' => hbody A' outer' s' H' E' f' c' hr') st hs he hpl
/-- Rule(..) of such a value, called within the law's own def -/
theorem refuse_told {B : Addr → Prop} {x : V} {j : Nat} {σ : L2.St} {H : Hp} {Q : VK} {cB : Addr} (tb : Tabs TT H) (hx : σ[j]? = some (some x)) (it : Itv K cRule B H x) (kk : ∀ H', ExtN H H' → Tabs TT H' → Q (.bl true) H') :
    tLam2E TT (TBd K cB) (fun E => tMake cRule (sp_RinitX K cRule cB) [] E (tCons (tVar j) tNil)) (fun _ v => v = .str "form") σ H Q := by
  refine ⟨tb, _, rfl, fun H1 e1 t1 => ⟨"form", rfl, by decide +kernel, fun out Q' acc => ?_⟩⟩
  refine ⟨_, hx, fun z dz nz ndz ne => ?_⟩
  have sx : Same H1 (upd (upd H1 dz (.own z)) z (.ins cRule dz [])) := fun b o hb => by
    rw [upd_ne (ne_of_none hb nz), upd_ne (ne_of_none hb ndz)]
    exact hb
  rcases it.mono (FrB.ext e1) with ⟨d, h1, nf⟩ | ⟨b, dx, fs, rfl, nb, hb⟩
  · refine .inl ⟨z, dz, x, d, rfl, upd_same, h1.now.same sx, nf.bd, fun w H' y s vd hy => ?_, fun T p r e sh => (nf.form T p r e (formOk_of sh.ok)).elim⟩
    have e := nf.vd vd
    injection e with e
    subst e
    exact acc y H' (sx.trans s) hy fun H2 s2 => kk H2 (e1.trans (ExtN.of s2)) (t1.ext s2)
  · exact .inr ⟨z, dz, b, dx, fs, rfl, upd_same, sx _ _ hb, fun H' y s hy => acc y H' (sx.trans s) hy fun H2 s2 => kk H2 (e1.trans (ExtN.of s2)) (t1.ext s2)⟩
end
end Sm

set_option Elab.async false
set_option linter.all false
set_option maxRecDepth 100000
set_option maxHeartbeats 16000000
namespace Sm
open PySem PySem.Spec PyProof.Rows L2 LamX
open C8 (pss_cut tCut)
def Bx (p l O : Addr) (b : Addr) : Prop := b = O ∨ b = p ∨ b = l
theorem nbT {p l O b : Addr} {n : Int} {H : Hp} {zs xs : List V} (D : Deck H p l n) (hO : H O = some (.lst zs)) (h : H b = some (.tup xs)) : ¬ Bx p l O b := by
  obtain ⟨cells, hl, _⟩ := D.hl
  rintro (rfl | rfl | rfl)
  · rw [hO] at h; cases h
  · rw [D.hp] at h; cases h
  · rw [hl] at h; cases h
theorem FrB.same {B : Addr → Prop} {H H' : Hp} (s : Same H H') : FrB B H H' := FrB.ext (ExtN.of s)
theorem nbI {p l O b C dx : Addr} {n : Int} {H : Hp} {zs : List V} {fs : List (Str × V)} (D : Deck H p l n) (hO : H O = some (.lst zs)) (h : H b = some (.ins C dx fs)) : ¬ Bx p l O b := by
  obtain ⟨cells, hl, _⟩ := D.hl
  rintro (rfl | rfl | rfl)
  · rw [hO] at h; cases h
  · rw [D.hp] at h; cases h
  · rw [hl] at h; cases h
theorem cut_ints {T : List Int} {lo hi : Option Int} : ∃ S : List Int, cutV (T.map V.int) lo hi = S.map V.int ∧ S.length ≤ T.length := by
  unfold cutV
  rw [← List.map_drop, ← List.map_take]
  exact ⟨_, rfl, by rw [List.length_take, List.length_drop]; omega⟩
theorem nf_last {S : List Int} {dw : PyData} {q : Int} {r : Int} (l : S.length ≤ 100) (bad : ∀ i, dw = .int i → i < 0) : NF (.tuple [.tuple (S.map PyData.int ++ [dw]), .int q, .int r]) := by
  refine nf_three (by rw [List.length_append, List.length_map, List.length_singleton]; omega) fun T p r' e _ _ f => ?_
  have e1 : (S.map PyData.int ++ [dw])[S.length]? = some dw := by rw [List.getElem?_append_right (by rw [List.length_map]; exact Nat.le_refl _), List.length_map, Nat.sub_self]; rfl
  rw [e, List.getElem?_map] at e1
  cases c : T[S.length]? with
  | none => rw [c] at e1; cases e1
  | some i =>
    rw [c] at e1
    have e2 : dw = .int i := (Option.some.inj e1).symm
    have hi := (List.getElem?_eq_some_iff.mp c).1
    have := f.2.2.2 _ hi
    rw [List.getD_eq_getElem?_getD, c] at this
    have h1 := bad i e2
    have h2 : 0 ≤ i := this
    omega
theorem nf_t16 {d : PyData} (h : t16 d = true) : NF d := nf_other fun a b c e => by
  rw [e] at h
  cases h
def sp_l_refused (K : PySem.W.Frag) (TT : List (Addr × Str)) : Sp := fun vs H Q _ => ∃ (p l d : Addr) (n : Int) (T : List Int) (q : Nat) (r : Int), vs = [.ref p, .ref d] ∧ Deck H p l n ∧ 0 ≤ n ∧ n ≤ 900000 ∧ RuleAt H d T q r ∧ Short T q r ∧ RM 1000000 T q r ∧ Tabs TT H ∧
  ∀ H' n', FrN p l H H' → Deck H' p l n' → n ≤ n' → n' ≤ n + 5 → Tabs TT H' → Q (.bl true) H'
/-- the values so far -/
structure Vals5 (K : PySem.W.Frag) (cRule p l O : Addr) (H H' : Hp) (k : Nat) (zs : List V) : Prop where
  s : Same H H'
  o : H' O = some (.lst zs)
  len : zs.length ≤ k
  it : ∀ x ∈ zs, Itv K cRule (Bx p l O) H' x
theorem Vals5.app {K : PySem.W.Frag} {cRule p l O : Addr} {H H1 H2 : Hp} {k : Nat} {zs : List V} {x : V} (h : Vals5 K cRule p l O H H1 k zs) (nO : H O = none) (s2 : Same H1 H2) (ix : Itv K cRule (Bx p l O) H2 x) : Vals5 K cRule p l O H (upd H2 O (.lst (zs ++ [x]))) (k + 1) (zs ++ [x]) :=
  ⟨fun b o e => by rw [upd_ne (ne_of_none e nO)]; exact s2 _ _ (h.s _ _ e), upd_same, by rw [List.length_append, List.length_singleton]; have := h.len; omega, fun y hy => by
    rcases List.mem_append.mp hy with e | e
    · exact ((h.it y e).mono (FrB.same s2)).mono (FrB.put (.inl rfl))
    · rw [List.mem_singleton.mp e]
      exact ix.mono (FrB.put (.inl rfl))⟩
section
variable {P : Program} {w : World} {K : PySem.W.Frag} {mg : Str → Option Value} {base : Heap} {TT : List (Addr × Str)} {cBadRule cNoAmount fB fN cRule fRi fEq fLen fIt fStr fCa fOf pOf cChangeError : Addr}
theorem ok_l_refused {f c Pt : Addr} {fd fdI : FuncData} (T : Txt mg) (R : TxR K mg cRule fRi fEq fLen fIt fStr fCa fOf pOf) (XBadRule : XVal K mg "BadRule" "error" cBadRule fB) (XC : XCg mg cChangeError) (kCE : PySem.W.kitOne K (.ref cBadRule) (.ref cChangeError) = some true)
    (F : Fun K "_law_refused" "_law_refused" s_l_refused f fd) (code : fd.code = .ref c) (TB : TabB base mg c Pt) (hmT : (Pt, q_l_refused) ∈ TT) (hu : ∀ p ∈ TT, p.1 = Pt → p.2 = q_l_refused)
    (G_Rule_init : FnOk P w K mg base CX0 5 fRi fdI ["self", "value"] (sp_Rinit0 K cRule)) (GX_Rule_init : FnOk P w K mg base (L2.CX P w) 5 fRi fdI ["self", "value"] (sp_RinitX K cRule cBadRule)) (b_Rule_init : Binds K fdI ["self", "value"] [])
    (C_l_odd : Cal P w K mg base "_law_odd" ["_law_deck_here"] 3 (sp_l_odd K)) (D_l_is_bad : Df K mg "_law_is_bad" s_l_is_bad ["_law_call", "_law_word_here"]) : FnG P w K mg base 11 f fd ["_law_deck_here", "_law_rule"] (sp_l_refused K TT) := by
  have g_Rule := R.g
  have Mk_Rule := R.mak
  obtain ⟨f_l_odd, fd_l_odd, G_l_odd, m_l_odd, k_l_odd, b_l_odd⟩ := C_l_odd
  refine FnG.bodyC (k := 10) F code sc_l_refused (fun vs H Q E h => ?_) (fun A outer s H vs Q E gu hr h => ?_)
  · obtain ⟨p, l, d, n, T0, q, r, rfl, _⟩ := h
    rfl
  obtain ⟨p, l, d, n, T0, q, r, rfl, D, n0, n1, RA, sh, bm, tb, kk⟩ := h
  obtain ⟨t, hd, ht⟩ := id RA
  have lm : (T0.map V.int).length = T0.length := List.length_map ..
  have so := sh.ok
  have p0 := so.p0
  have p1 := so.p1
  have r0 := so.r0
  have bl := bm.len
  have hG : ∀ (g : Addr) (cdg : Value), Gives2 (X_l_refused P w K mg base f c A outer s H E) N_l_is_bad "_law_is_bad" (defScope s_l_is_bad) g cdg (defBody s_l_is_bad) "_law_call" q_l_refused (TBd K cBadRule) := fun g cdg => bad_gives T XBadRule XC.gChangeError kCE gu (Nat.lt_of_le_of_lt (Nat.add_le_add_right (Nat.le_add_right _ _) 200) hr.un) g cdg
  refine ⟨_, (pss_cons (ps_asg (pv 1) (pg_tup (by rfl) (pgs_cons (pg_name (i := 2) sc_l_refused.nd rfl (Or.inl rfl)) (pgs_cons (pg_name (i := 3) sc_l_refused.nd rfl (Or.inl rfl)) (pgs_cons (pg_name (i := 4) sc_l_refused.nd rfl (Or.inl rfl)) pgs_nil)))))
    (pss_cut (ps_set (i := 5) sc_l_refused.nd rfl (Or.inl rfl) (pe_lstN (pa_cons (pe_callTy call_listN (by rfl) T.n_list (by decide +kernel) (pa_cons (pv 1) pa_nil)) (pa_cons (pe_tup (pa_cons (pe_callTy call_listN (by rfl) T.n_list (by decide +kernel) (pa_cons (pv 2) pa_nil)) (pa_cons (pv 3) (pa_cons (pv 4) pa_nil)))) (pa_cons (pe_op op_catA (pv 1) (pe_tup (pa_cons pe_int pa_nil))) (pa_cons (pe_tup (pa_cons (pv 2) (pa_cons (pv 3) pa_nil))) (pa_cons (pe_tup (pa_cons (pe_tup pa_nil) (pa_cons pe_int (pa_cons pe_int pa_nil)))) pa_nil)))))))
    (pss_cut (ps_for PassesOwn.never rfl (pi_tup (pe_tup (pa_cons pe_bl (pa_cons pe_int (pa_cons (pe_op op_add (pe_callB call_len_seq (by rfl) T.n_len (by decide +kernel) (pa_cons (pv 2) pa_nil)) pe_int) (pa_cons pe_str (pa_cons pe_non pa_nil))))))) (pg_name (i := 6) sc_l_refused.nd rfl (Or.inl rfl))
      (pss_one (ps_expr (pe_bm PySem.F.plainAttrs_list PySem.F.slot_list_append PySem.F.type_list_append mt_append (pv 5) (pa_cons (pe_tup (pa_cons (pv 2) (pa_cons (pv 6) (pa_cons (pv 4) pa_nil)))) pa_nil)))))
    (pss_cut (ps_for PassesOwn.never rfl (pi_tup (pe_tup (pa_cons (pe_un un_neg pe_int) (pa_cons pe_non (pa_cons pe_str (pa_cons pe_bl pa_nil)))))) (pg_name (i := 6) sc_l_refused.nd rfl (Or.inl rfl))
      (pss_one (ps_expr (pe_bm PySem.F.plainAttrs_list PySem.F.slot_list_append PySem.F.type_list_append mt_append (pv 5) (pa_cons (pe_tup (pa_cons (pv 2) (pa_cons (pv 3) (pa_cons (pv 6) pa_nil)))) pa_nil)))))
    (pss_cut (ps_for PassesOwn.never rfl (pi_tup (pe_tup (pa_cons pe_bl (pa_cons (pe_un un_neg pe_int) (pa_cons pe_str (pa_cons pe_non pa_nil)))))) (pg_name (i := 6) sc_l_refused.nd rfl (Or.inl rfl))
      (pss_one (ps_expr (pe_bm PySem.F.plainAttrs_list PySem.F.slot_list_append PySem.F.type_list_append mt_append (pv 5) (pa_cons (pe_tup (pa_cons (pe_op op_catA (pe_slice sl_tupA (pv 2) po_none (po_some (pe_un un_neg pe_int))) (pe_tup (pa_cons (pv 6) pa_nil))) (pa_cons (pv 3) (pa_cons (pv 4) pa_nil)))) pa_nil)))))
    (pss_cut (ps_expr (pe_bm PySem.F.plainAttrs_list PySem.F.slot_list_extend PySem.F.type_list_extend mt_extend (pv 5) (pa_cons (pe_lstN (pa_cons (pe_call G_l_odd (hr.mono (by decide)) (by rfl) m_l_odd k_l_odd b_l_odd .nil pass0 (pa_cons (pv 0) pa_nil)) (pa_cons (pe_make Mk_Rule G_Rule_init (hr.mono (by decide)) (by rfl) g_Rule b_Rule_init .nil pass0 (pa_cons (pv 1) pa_nil)) pa_nil))) pa_nil)))
    (pss_cons (ps_for PassesOwn.never rfl (pi_list (pv 5)) (pg_name (i := 7) sc_l_refused.nd rfl (Or.inr rfl))
      (pss_one (ps_if (pt_not (pt_val (pe_bad_l_refused D_l_is_bad hG TB hmT hu (hr.mono (by decide)) (by decide +kernel) (fun _ _ _ _ _ _ _ hr => (pe_make Mk_Rule GX_Rule_init (hr.mono (by decide)) (by rfl) g_Rule b_Rule_init .nil (passE (takes_of rfl rfl rfl rfl)) (pa_cons (pv 7) pa_nil))) still_str))) (pss_one (ps_ret pe_bl)) pss_nil)))
    (pss_one (ps_ret pe_bl))))))))), ?_⟩
  refine ⟨_, rfl, d, _, rfl, SqT.of hd, rfl, _, _, rfl, _, _, rfl, _, _, rfl, rfl, ?_⟩
  refine ⟨fun σ H' => ∃ (O : Addr) (zs : List V), σ = [some (.ref p), some (.ref d), some (.ref t), some (.int (q : Int)), some (.int r), some (.ref O), none, none] ∧ H O = none ∧ Vals5 K cRule p l O H H' 5 zs, ?_, ?_⟩
  · refine ⟨_, rfl, d, _, rfl, hd, fun L1 nL1 eL1 => ?_⟩
    have w1 := same_upd (o := .lst [.ref t, .int (q : Int), .int r]) nL1
    have h1 : upd H L1 (.lst [.ref t, .int (q : Int), .int r]) L1 = some (.lst [.ref t, .int (q : Int), .int r]) := upd_same
    generalize upd H L1 (.lst [.ref t, .int (q : Int), .int r]) = H1 at w1 h1 ⊢
    refine ⟨_, rfl, t, _, rfl, w1 _ _ ht, fun L2 nL2 eL2 => ?_⟩
    have w2 := same_upd (o := .lst (T0.map V.int)) nL2
    have h2 : upd H1 L2 (.lst (T0.map V.int)) L2 = some (.lst (T0.map V.int)) := upd_same
    generalize upd H1 L2 (.lst (T0.map V.int)) = H2 at w2 h2 ⊢
    refine ⟨_, rfl, _, rfl, by show 3 ≤ sizeLine; decide, fun L3 nL3 => ?_⟩
    have w3 := same_upd (o := .tup [.ref L2, .int (q : Int), .int r]) nL3
    have h3 : upd H2 L3 (.tup [.ref L2, .int (q : Int), .int r]) L3 = some (.tup [.ref L2, .int (q : Int), .int r]) := upd_same
    generalize upd H2 L3 (.tup [.ref L2, .int (q : Int), .int r]) = H3 at w3 h3 ⊢
    refine ⟨_, rfl, by show 1 ≤ sizeLine; decide, fun L4 nL4 => ?_⟩
    have w4 := same_upd (o := .tup [.int 0]) nL4
    have h4 : upd H3 L4 (.tup [.int 0]) L4 = some (.tup [.int 0]) := upd_same
    generalize upd H3 L4 (.tup [.int 0]) = H4 at w4 h4 ⊢
    have s4 := w1.trans (w2.trans (w3.trans w4))
    refine cat_uni (s4 _ _ hd) h4 (by show 3 + 1 ≤ sizeLine; decide) fun L5 H5 w5 h5 => ?_
    refine ⟨_, rfl, _, rfl, by show 2 ≤ sizeLine; decide, fun L6 nL6 => ?_⟩
    have w6 := same_upd (o := .tup [.ref t, .int (q : Int)]) nL6
    have h6 : upd H5 L6 (.tup [.ref t, .int (q : Int)]) L6 = some (.tup [.ref t, .int (q : Int)]) := upd_same
    generalize upd H5 L6 (.tup [.ref t, .int (q : Int)]) = H6 at w6 h6 ⊢
    refine ⟨by show 0 ≤ sizeLine; decide, fun L7 nL7 => ⟨by show 3 ≤ sizeLine; decide, fun L8 nL8 => ?_⟩⟩
    have w7 := same_upd (o := .tup []) nL7
    have h7 : upd H6 L7 (.tup []) L7 = some (.tup []) := upd_same
    generalize upd H6 L7 (.tup []) = H7 at w7 h7 nL8 ⊢
    have w8 := same_upd (o := .tup [.ref L7, .int 1, .int 0]) nL8
    have h8 : upd H7 L8 (.tup [.ref L7, .int 1, .int 0]) L8 = some (.tup [.ref L7, .int 1, .int 0]) := upd_same
    generalize upd H7 L8 (.tup [.ref L7, .int 1, .int 0]) = H8 at w8 h8 ⊢
    refine ⟨by show 5 ≤ sizeLine; decide, fun O nO eO => ?_⟩
    have w9 := same_upd (o := .lst [.ref L1, .ref L3, .ref L5, .ref L6, .ref L8]) nO
    have hO : upd H8 O (.lst [.ref L1, .ref L3, .ref L5, .ref L6, .ref L8]) O = some (.lst [.ref L1, .ref L3, .ref L5, .ref L6, .ref L8]) := upd_same
    have x58 := w6.trans (w7.trans w8)
    have x8 := s4.trans (w5.trans x58)
    generalize upd H8 O (.lst [.ref L1, .ref L3, .ref L5, .ref L6, .ref L8]) = H9 at w9 hO ⊢
    have x9 := x8.trans w9
    have D9 := D.same x9
    have k1 : H9 L1 = some _ := w9 _ _ (x58 _ _ (w5 _ _ (w4 _ _ (w3 _ _ (w2 _ _ h1)))))
    have k2 : H9 L2 = some _ := w9 _ _ (x58 _ _ (w5 _ _ (w4 _ _ (w3 _ _ h2))))
    have k3 : H9 L3 = some _ := w9 _ _ (x58 _ _ (w5 _ _ (w4 _ _ h3)))
    have k5 : H9 L5 = some _ := w9 _ _ (x58 _ _ h5)
    have k6 : H9 L6 = some _ := w9 _ _ (w8 _ _ (w7 _ _ h6))
    have k7 : H9 L7 = some _ := w9 _ _ (w8 _ _ h7)
    have k8 : H9 L8 = some _ := w9 _ _ h8
    have kt : H9 t = some _ := x9 _ _ ht
    have n1 : ¬ Bx p l O L1 := by
      have lne := D.lne nL1
      rintro (e | e | e)
      · rw [e] at h1
        rw [(w2.trans (w3.trans (w4.trans (w5.trans x58)))) _ _ h1] at nO
        cases nO
      · exact lne.1 e
      · exact lne.2 e
    have n2 : ¬ Bx p l O L2 := by
      have lne := (D.same w1).lne nL2
      rintro (e | e | e)
      · rw [e] at h2
        rw [(w3.trans (w4.trans (w5.trans x58))) _ _ h2] at nO
        cases nO
      · exact lne.1 e
      · exact lne.2 e
    refine ⟨O, _, rfl, Same.free x8 nO, x9, hO, by show 5 ≤ 5; decide, fun x hx => ?_⟩
    have tt : Stv K (Bx p l O) H9 (.ref t) (.tuple (T0.map PyData.int)) := .tup kt (nbT D9 hO kt) Svs.ints
    simp only [List.mem_cons, List.not_mem_nil, or_false] at hx
    rcases hx with rfl | rfl | rfl | rfl | rfl
    · exact .inl ⟨_, .lst k1 n1 eL1 (.cons tt (.cons .int (.cons .int .nil))), nf_other fun _ _ _ e => nomatch e⟩
    · exact .inl ⟨_, .tup k3 (nbT D9 hO k3) (.cons (.lst k2 n2 eL2 .ints) (.cons .int (.cons .int .nil))), nf_other fun _ _ _ e => nomatch e⟩
    · exact .inl ⟨_, .tup k5 (nbT D9 hO k5) (.cons tt (.cons .int (.cons .int (.cons .int .nil)))), nf_other fun _ _ _ e => nomatch e⟩
    · exact .inl ⟨_, .tup k6 (nbT D9 hO k6) (.cons tt (.cons .int .nil)), nf_other fun _ _ _ e => nomatch e⟩
    · exact .inl ⟨_, .tup k8 (nbT D9 hO k8) (.cons (.tup k7 (nbT D9 hO k7) .nil) (.cons .int (.cons .int .nil))), nf_three (by decide) fun T p r e1 e2 _ f => by
        cases T with
        | nil => have := f.2.1; have := f.1; simp at *; omega
        | cons _ _ => cases e1⟩
  rintro σ H1 ⟨O, zs, rfl, nO, v1⟩
  refine ⟨fun σ H' => ∃ (zs : List V) (v6 : Option V), σ = [some (.ref p), some (.ref d), some (.ref t), some (.int (q : Int)), some (.int r), some (.ref O), v6, none] ∧ Vals5 K cRule p l O H H' 10 zs, ?_, ?_⟩
  · refine ⟨_, rfl, _, _, rfl, .inr (SqT.of (v1.s _ _ ht)), _, _, rfl, rfl, by show 5 ≤ sizeLine; decide, fun W nW => ?_⟩
    rw [len_int]
    have sW := same_upd (o := .tup [.bl true, .int 0, .int ((T0.length : Int) + 1), .str "1", .non]) nW
    have hW : upd H1 W (.tup [.bl true, .int 0, .int ((T0.length : Int) + 1), .str "1", .non]) W = some (.tup [.bl true, .int 0, .int ((T0.length : Int) + 1), .str "1", .non]) := upd_same
    generalize upd H1 W (.tup [.bl true, .int 0, .int ((T0.length : Int) + 1), .str "1", .non]) = H2 at sW hW ⊢
    refine ⟨W, rfl, ⟨_, SqT.of hW⟩, ?_⟩
    have v2 : Vals5 K cRule p l O H H2 5 zs := ⟨v1.s.trans sW, sW _ _ v1.o, v1.len, fun x hx => (v1.it x hx).mono (FrB.same sW)⟩
    have nWO : W ≠ O := ne_of hW v2.o (by intro z; cases z)
    refine for_tup (K := K) (a := W) (xs := [.bl true, .int 0, .int ((T0.length : Int) + 1), .str "1", .non]) (fun i σ H' => ∃ (zs : List V) (v6 : Option V), σ = [some (.ref p), some (.ref d), some (.ref t), some (.int (q : Int)), some (.int r), some (.ref O), v6, none] ∧ Vals5 K cRule p l O H H' (5 + i) zs ∧ H' W = some (.tup [.bl true, .int 0, .int ((T0.length : Int) + 1), .str "1", .non])) ⟨zs, none, rfl, v2, hW⟩ (fun i σ H' _ h => by
      obtain ⟨_, _, _, _, h'⟩ := h
      exact SqT.of h') ?_ ?_
    · rintro i x σ H3 hx ⟨zs, v6, rfl, v3, hW3⟩
      have hi : i < 5 := (List.getElem?_eq_some_iff.mp hx).1
      obtain ⟨dw, hdw, bad⟩ : ∃ dw, (∀ H'' : Hp, Dq K H'' x dw) ∧ ∀ p : Nat, dw = .int p → FormOk T0 (p : Int) r → False := by
        have hx := List.mem_of_getElem? hx
        simp only [List.mem_cons, List.not_mem_nil, or_false] at hx
        rcases hx with rfl | rfl | rfl | rfl | rfl
        · exact ⟨_, fun _ => .bl _, fun _ e => nomatch e⟩
        · exact ⟨_, fun _ => .int _, fun p e f => by injection e with e; have := f.1; omega⟩
        · exact ⟨_, fun _ => .int _, fun p e f => by injection e with e; have := f.2.1; omega⟩
        · exact ⟨_, fun _ => .str _, fun _ e => nomatch e⟩
        · exact ⟨_, fun _ => .non, fun _ e => nomatch e⟩
      refine ⟨_, rfl, .inl ⟨rfl, _, SqL.of v3.o⟩, _, rfl, _, rfl, _, rfl, by show 3 ≤ sizeLine; decide, fun u nu => ?_⟩
      have su := same_upd (o := .tup [.ref t, x, .int r]) nu
      have hu' : upd H3 u (.tup [.ref t, x, .int r]) u = some (.tup [.ref t, x, .int r]) := upd_same
      generalize upd H3 u (.tup [.ref t, x, .int r]) = H4 at su hu' ⊢
      have vl := v3.len
      have D4 := D.same (v3.s.trans su)
      have hO4 := su _ _ v3.o
      refine ⟨O, _, _, rfl, rfl, hO4, Nat.lt_of_le_of_lt (show zs.length ≤ 100 by omega) (by decide), _, _, rfl, v3.app nO su (.inl ⟨_, .tup hu' (nbT D4 hO4 hu') (.cons (.tup (su _ _ (v3.s _ _ ht)) (nbT D4 hO4 (su _ _ (v3.s _ _ ht))) .ints) (.cons (fun H'' _ => hdw H'') (.cons .int .nil))), nf_three (by rw [List.length_map]; omega) fun T' p' r' e1 e2 e3 ff => ?_⟩), ?_⟩
      · have e1 := map_int_inj e1
        subst e1
        injection e3 with e3
        subst e3
        exact bad p' e2 ff
      · rw [upd_ne nWO]
        exact su _ _ hW3
    · rintro σ H3 ⟨zs, v6, rfl, v3, _⟩
      exact ⟨zs, v6, rfl, v3⟩
  clear v1
  rintro σ H1 ⟨zs, v6, rfl, v1⟩
  refine ⟨fun σ H' => ∃ (zs : List V) (v6 : Option V), σ = [some (.ref p), some (.ref d), some (.ref t), some (.int (q : Int)), some (.int r), some (.ref O), v6, none] ∧ Vals5 K cRule p l O H H' 14 zs, ?_, ?_⟩
  · refine ⟨_, rfl, by show 4 ≤ sizeLine; decide, fun W nW => ?_⟩
    have sW := same_upd (o := .tup [.int (-1), .non, .str "1", .bl true]) nW
    have hW : upd H1 W (.tup [.int (-1), .non, .str "1", .bl true]) W = some (.tup [.int (-1), .non, .str "1", .bl true]) := upd_same
    generalize upd H1 W (.tup [.int (-1), .non, .str "1", .bl true]) = H2 at sW hW ⊢
    refine ⟨W, rfl, ⟨_, SqT.of hW⟩, ?_⟩
    have v2 : Vals5 K cRule p l O H H2 10 zs := ⟨v1.s.trans sW, sW _ _ v1.o, v1.len, fun x hx => (v1.it x hx).mono (FrB.same sW)⟩
    have nWO : W ≠ O := ne_of hW v2.o (by intro z; cases z)
    refine for_tup (K := K) (a := W) (xs := [.int (-1), .non, .str "1", .bl true]) (fun i σ H' => ∃ (zs : List V) (v6 : Option V), σ = [some (.ref p), some (.ref d), some (.ref t), some (.int (q : Int)), some (.int r), some (.ref O), v6, none] ∧ Vals5 K cRule p l O H H' (10 + i) zs ∧ H' W = some (.tup [.int (-1), .non, .str "1", .bl true])) ⟨zs, v6, rfl, v2, hW⟩ (fun i σ H' _ h => by
      obtain ⟨_, _, _, _, h'⟩ := h
      exact SqT.of h') ?_ ?_
    · rintro i x σ H3 hx ⟨zs, v6, rfl, v3, hW3⟩
      have hi : i < 4 := (List.getElem?_eq_some_iff.mp hx).1
      obtain ⟨dw, hdw, bad⟩ : ∃ dw, (∀ H'' : Hp, Dq K H'' x dw) ∧ ∀ i : Int, dw = .int i → i < 0 := by
        have hx := List.mem_of_getElem? hx
        simp only [List.mem_cons, List.not_mem_nil, or_false] at hx
        rcases hx with rfl | rfl | rfl | rfl
        · exact ⟨_, fun _ => .int _, fun p e => by injection e with e; omega⟩
        · exact ⟨_, fun _ => .non, fun _ e => nomatch e⟩
        · exact ⟨_, fun _ => .str _, fun _ e => nomatch e⟩
        · exact ⟨_, fun _ => .bl _, fun _ e => nomatch e⟩
      refine ⟨_, rfl, .inl ⟨rfl, _, SqL.of v3.o⟩, _, rfl, _, rfl, _, rfl, by show 3 ≤ sizeLine; decide, fun u nu => ?_⟩
      have su := same_upd (o := .tup [.ref t, .int (q : Int), x]) nu
      have hu' : upd H3 u (.tup [.ref t, .int (q : Int), x]) u = some (.tup [.ref t, .int (q : Int), x]) := upd_same
      generalize upd H3 u (.tup [.ref t, .int (q : Int), x]) = H4 at su hu' ⊢
      have vl := v3.len
      have D4 := D.same (v3.s.trans su)
      have hO4 := su _ _ v3.o
      refine ⟨O, _, _, rfl, rfl, hO4, Nat.lt_of_le_of_lt (show zs.length ≤ 100 by omega) (by decide), _, _, rfl, v3.app nO su (.inl ⟨_, .tup hu' (nbT D4 hO4 hu') (.cons (.tup (su _ _ (v3.s _ _ ht)) (nbT D4 hO4 (su _ _ (v3.s _ _ ht))) .ints) (.cons .int (.cons (fun H'' _ => hdw H'') .nil))), nf_three (by rw [List.length_map]; omega) fun T' p' r' e1 e2 e3 ff => ?_⟩), ?_⟩
      · have := bad r' e3
        have := ff.2.2.1
        omega
      · rw [upd_ne nWO]
        exact su _ _ hW3
    · rintro σ H3 ⟨zs, v6, rfl, v3, _⟩
      exact ⟨zs, v6, rfl, v3⟩
  clear v1
  rintro σ H1 ⟨zs, v6, rfl, v1⟩
  refine ⟨fun σ H' => ∃ (zs : List V) (v6 : Option V), σ = [some (.ref p), some (.ref d), some (.ref t), some (.int (q : Int)), some (.int r), some (.ref O), v6, none] ∧ Vals5 K cRule p l O H H' 18 zs, ?_, ?_⟩
  · refine ⟨_, rfl, by show 4 ≤ sizeLine; decide, fun W nW => ?_⟩
    have sW := same_upd (o := .tup [.bl true, .int (-1), .str "9", .non]) nW
    have hW : upd H1 W (.tup [.bl true, .int (-1), .str "9", .non]) W = some (.tup [.bl true, .int (-1), .str "9", .non]) := upd_same
    generalize upd H1 W (.tup [.bl true, .int (-1), .str "9", .non]) = H2 at sW hW ⊢
    refine ⟨W, rfl, ⟨_, SqT.of hW⟩, ?_⟩
    have v2 : Vals5 K cRule p l O H H2 14 zs := ⟨v1.s.trans sW, sW _ _ v1.o, v1.len, fun x hx => (v1.it x hx).mono (FrB.same sW)⟩
    have nWO : W ≠ O := ne_of hW v2.o (by intro z; cases z)
    refine for_tup (K := K) (a := W) (xs := [.bl true, .int (-1), .str "9", .non]) (fun i σ H' => ∃ (zs : List V) (v6 : Option V), σ = [some (.ref p), some (.ref d), some (.ref t), some (.int (q : Int)), some (.int r), some (.ref O), v6, none] ∧ Vals5 K cRule p l O H H' (14 + i) zs ∧ H' W = some (.tup [.bl true, .int (-1), .str "9", .non])) ⟨zs, v6, rfl, v2, hW⟩ (fun i σ H' _ h => by
      obtain ⟨_, _, _, _, h'⟩ := h
      exact SqT.of h') ?_ ?_
    · rintro i x σ H3 hx ⟨zs, v6, rfl, v3, hW3⟩
      have hi : i < 4 := (List.getElem?_eq_some_iff.mp hx).1
      obtain ⟨dw, hdw, bad⟩ : ∃ dw, (∀ H'' : Hp, Dq K H'' x dw) ∧ ∀ i : Int, dw = .int i → i < 0 := by
        have hx := List.mem_of_getElem? hx
        simp only [List.mem_cons, List.not_mem_nil, or_false] at hx
        rcases hx with rfl | rfl | rfl | rfl
        · exact ⟨_, fun _ => .bl _, fun _ e => nomatch e⟩
        · exact ⟨_, fun _ => .int _, fun p e => by injection e with e; omega⟩
        · exact ⟨_, fun _ => .str _, fun _ e => nomatch e⟩
        · exact ⟨_, fun _ => .non, fun _ e => nomatch e⟩
      obtain ⟨S, eS, lS⟩ := cut_ints (T := T0) (lo := none) (hi := some (-1))
      refine ⟨_, rfl, .inl ⟨rfl, _, SqL.of v3.o⟩, _, rfl, _, rfl, _, rfl, ?_⟩
      refine sl_uni (v3.s _ _ ht) fun u1 H4 s4 hu1 => ?_
      rw [show (-(1 : Int)) = -1 from rfl, eS] at hu1
      refine ⟨_, rfl, by show 1 ≤ sizeLine; decide, fun u2 nu2 => ?_⟩
      have s5 := same_upd (o := .tup [x]) nu2
      have hu2 : upd H4 u2 (.tup [x]) u2 = some (.tup [x]) := upd_same
      generalize upd H4 u2 (.tup [x]) = H5 at s5 hu2 ⊢
      refine cat_uni (s5 _ _ hu1) hu2 (by rw [List.length_map, List.length_singleton]; exact Nat.le_trans (show S.length + 1 ≤ 100 by omega) (by decide)) fun u3 H6 s6 hu3 => ?_
      refine ⟨_, rfl, _, rfl, by show 3 ≤ sizeLine; decide, fun u nu => ?_⟩
      have s7 := same_upd (o := .tup [.ref u3, .int (q : Int), .int r]) nu
      have hu' : upd H6 u (.tup [.ref u3, .int (q : Int), .int r]) u = some (.tup [.ref u3, .int (q : Int), .int r]) := upd_same
      have hu3' := s7 _ _ hu3
      generalize upd H6 u (.tup [.ref u3, .int (q : Int), .int r]) = H7 at s7 hu' hu3' ⊢
      have su := s4.trans (s5.trans (s6.trans s7))
      have vl := v3.len
      have D4 := D.same (v3.s.trans su)
      have hO4 := su _ _ v3.o
      refine ⟨O, _, _, rfl, rfl, hO4, Nat.lt_of_le_of_lt (show zs.length ≤ 100 by omega) (by decide), _, _, rfl, v3.app nO su (.inl ⟨_, .tup hu' (nbT D4 hO4 hu') (.cons (.tup hu3' (nbT D4 hO4 hu3') (Svs.ints.app (.cons (fun H'' _ => hdw H'') .nil))) (.cons .int (.cons .int .nil))), nf_last (by omega) bad⟩), ?_⟩
      rw [upd_ne nWO]
      exact su _ _ hW3
    · rintro σ H3 ⟨zs, v6, rfl, v3, _⟩
      exact ⟨zs, v6, rfl, v3⟩
  clear v1
  rintro σ H1 ⟨zs, v6, rfl, v1⟩
  have tb1 : Tabs TT H1 := tb.ext v1.s
  have D1 := D.same v1.s
  have R1 := RA.same v1.s
  have vl := v1.len
  refine ⟨fun σ H' => ∃ (zs : List V) (v6 : Option V) (n' : Int), σ = [some (.ref p), some (.ref d), some (.ref t), some (.int (q : Int)), some (.int r), some (.ref O), v6, none] ∧ FrN p l H H' ∧ Deck H' p l n' ∧ n ≤ n' ∧ n' ≤ n + 1 ∧ Tabs TT H' ∧ H' O = some (.lst zs) ∧ ∀ x ∈ zs, Itv K cRule (Bx p l O) H' x, ?_, ?_⟩
  · refine ⟨_, rfl, .inl ⟨rfl, _, SqL.of v1.o⟩, _, rfl, p, l, n, rfl, D1, n0, n1, fun H2 x dx f2 D2 hN sm t1 => ?_⟩
    have R2 := R1.fr f2 D1
    refine ⟨_, rfl, new_rule R2 sh (bm.rb (by decide)) (by omega) fun z H3 s3 O3 => ?_⟩
    refine ⟨by show 2 ≤ sizeLine; decide, fun X nX eX => ?_⟩
    have sX := same_upd (o := .lst [x, .ref z]) nX
    have hX : upd H3 X (.lst [x, .ref z]) X = some (.lst [x, .ref z]) := upd_same
    generalize upd H3 X (.lst [x, .ref z]) = H4 at sX hX ⊢
    have s4 := s3.trans sX
    have Op := D.lne nO
    have hO2 := f2 _ _ Op.1 Op.2 v1.o
    have hO4 := s4 _ _ hO2
    have D4 := D2.same s4
    have g12 : FrB (Bx p l O) H1 H2 := fun b o nb e _ => f2 b o (fun e => nb (.inr (.inl e))) (fun e => nb (.inr (.inr e))) e
    refine ⟨O, X, zs, [x, .ref z], rfl, rfl, hO4, hX, Nat.le_trans (show zs.length + 2 ≤ 100 by omega) (by decide), zs ++ [x, .ref z], v6, n + 1, rfl, ?_, ?_, by omega, by omega, Tabs.app (Tabs.ext (Tabs.fr tb1 f2 D1) s4) hO4, upd_same, ?_⟩
    · intro b o h1 h2 e _
      rw [upd_ne (ne_of_none e nO)]
      exact s4 _ _ (f2 _ _ h1 h2 (v1.s _ _ e))
    · obtain ⟨cells, hl, hc⟩ := D4.hl
      exact ⟨by rw [upd_ne (Ne.symm Op.1)]; exact D4.hp, cells, by rw [upd_ne (Ne.symm Op.2)]; exact hl, hc⟩
    · intro y hy
      rcases List.mem_append.mp hy with e | e
      · exact (((v1.it y e).mono g12).mono (FrB.same s4)).mono (FrB.put (.inl rfl))
      · simp only [List.mem_cons, List.not_mem_nil, or_false] at e
        rcases e with rfl | rfl
        · refine .inl ⟨dx, ((Stv.new hN fun b hb => ?_).mono (FrB.same s4)).mono (FrB.put (.inl rfl)), nf_t16 t1⟩
          rcases hb with rfl | rfl | rfl
          · rw [v1.o]; exact fun e => nomatch e
          · rw [D1.hp]; exact fun e => nomatch e
          · obtain ⟨cells, hl, _⟩ := D1.hl
            rw [hl]; exact fun e => nomatch e
        · obtain ⟨dz, d9, t9, hz, _⟩ := O3
          have hz4 := sX _ _ hz
          exact Itv.mono (.inr ⟨z, dz, _, rfl, nbI D4 hO4 hz4, hz4⟩) (FrB.put (.inl rfl))
  rintro σ H2 ⟨zs2, v7, n', rfl, f2, D2, m0, m1, tb2, hO2, it2⟩
  refine ⟨_, rfl, O, rfl, ⟨_, SqL.of hO2⟩, ?_⟩
  refine for_list (K := K) (a := O) (xs := zs2) (fun i σ H' => ∃ v8 : Option V, σ = [some (.ref p), some (.ref d), some (.ref t), some (.int (q : Int)), some (.int r), some (.ref O), v7, v8] ∧ ExtN H2 H' ∧ Tabs TT H') ⟨none, rfl, ExtN.refl _, tb2⟩ (fun i σ H' _ h => by
    obtain ⟨_, _, e', _⟩ := h
    exact SqL.of (extLst e' hO2)) ?_ ?_
  · rintro i x σ H3 hx ⟨v8, rfl, e3, tb3⟩
    have ix := (it2 x (List.mem_of_getElem? hx)).mono (FrB.ext e3)
    refine refuse_told (j := 7) tb3 rfl ix fun H4 e4 tb4 => ?_
    exact ⟨_, rfl, iteF ⟨_, rfl, e3.trans e4, tb4⟩⟩
  · rintro σ H3 ⟨v8, rfl, e3, tb3⟩
    refine kk H3 n' (f2.trans (FrN.ext e3)) (D2.ext e3) (by omega) (by omega) tb3
end
end Sm

set_option Elab.async false
set_option linter.all false
set_option maxRecDepth 100000
set_option maxHeartbeats 16000000
namespace Sm
open PySem PySem.Spec PyProof.Rows L2 LamX
open C8 (pss_cut tCut)
theorem vd_wd {T : List Int} {q : Nat} {r : Int} {w : V} (f : FormOk T (q : Int) r) (h : Vd (ruD T q r) w) : Wd T q r w := by
  rcases h with ⟨nf, _⟩ | ⟨T', q', r', e, _, h⟩
  · exact absurd ⟨T, q, r, rfl, f⟩ nf
  · obtain ⟨rfl, rfl, rfl⟩ := ruD_inj e
    exact h
theorem wd_one {T : List Int} {q : Nat} {r : Int} {w w' : V} (h : Wd T q r w) (h' : Wd T q r w') : w = w' := by
  rcases h with ⟨a, rfl⟩ | ⟨a, ⟨b, rfl⟩ | ⟨b, rfl⟩⟩ <;> rcases h' with ⟨a', rfl⟩ | ⟨a', ⟨b', rfl⟩ | ⟨b', rfl⟩⟩ <;> first | rfl | contradiction
def sp_Rof0 (cRule : Addr) : Sp := fun vs H Q _ => ∃ (a : Addr) (T S : List Int) (q p : Nat) (r s : Int), vs = [.ref cRule, .ref a, .int (q : Int), .int r] ∧ SA H a (T.map V.int) ∧ T.length ≤ 5000 ∧ RuleOk T q r ∧ RB T q r ∧ Short S p s ∧ RB S p s ∧ (∀ x, vl S p s x = vl T q r x) ∧ ∀ H' z, Same H H' → RuleO cRule H' z S p s → Q (.ref z) H'
def sp_law (K : PySem.W.Frag) (TT : List (Addr × Str)) : Sp := fun vs H Q _ => ∃ (a : Addr) (ns : List Int), vs = [.ref a] ∧ SqL K H a (ns.map V.int) ∧ ns.length ≤ 63 ∧ Tabs TT H ∧ ∀ H', Q (.bl true) H'
section
variable {P : Program} {w : World} {K : PySem.W.Frag} {mg : Str → Option Value} {base : Heap} {TT : List (Addr × Str)} {cBadRule cNoAmount fB fN cRule fRi fEq fLen fIt fStr fCa fOf pOf cChangeError : Addr}
theorem ok_Rof0 {fd : FuncData} (F : FnOk P w K mg base (L2.CX P w) 7 fOf fd ["cls", "table", "period", "rise"] (sp_Rof cRule cBadRule)) : FnOk P w K mg base CX0 7 fOf fd ["cls", "table", "period", "rise"] (sp_Rof0 cRule) := by
  refine no_raise F fun vs H Q E h => ?_
  obtain ⟨a, T0, S, q, p, r, s, rfl, hA, l5, o, b, sh, bs, hv, kk⟩ := h
  have f := formOk_of o
  refine ⟨a, T0, q, r, rfl, hA, l5, fun T' p' r' sh' hv' _ _ => ?_, fun _ => by rw [Int.toNat_natCast]; exact b, fun nf => absurd f nf, fun _ no => absurd (by rw [Int.toNat_natCast]; exact o) no, fun _ _ H' z T' p' r' s' O sh' hv' _ => ?_⟩
  · obtain ⟨rfl, rfl, rfl⟩ := short_one sh' sh fun x => by rw [hv', hv, Int.toNat_natCast]
    exact bs
  · obtain ⟨rfl, rfl, rfl⟩ := short_one sh' sh fun x => by rw [hv', hv, Int.toNat_natCast]
    exact kk H' z s' O
/-- Rule(..) of a rule of the right form that is wrong -/
theorem bad_told {T : List Int} {q j : Nat} {r : Int} {d : Addr} {x : Str} {σ : L2.St} {H : Hp} {Q : VK} {cB : Addr} {tv : L2.St → V → Prop} (tb : Tabs TT H) (hx : σ[j]? = some (some (.ref d))) (RA : RuleAt H d T q r) (f : FormOk T (q : Int) r) (b : RB T q r) (l : T.length ≤ 5000) (wd : Wd T q r (.str x)) (wl : (reprText x).length ≤ 100) (hv : tv σ (.str x)) (kk : ∀ H', ExtN H H' → Tabs TT H' → Q (.bl true) H') :
    tLam2E TT (TBd K cB) (fun E => tMake cRule (sp_RinitX K cRule cB) [] E (tCons (tVar j) tNil)) tv σ H Q := by
  refine ⟨tb, _, hv, fun H1 e1 t1 => ⟨x, rfl, wl, fun out Q' acc => ?_⟩⟩
  refine ⟨_, hx, fun z dz nz ndz ne => ?_⟩
  have sx : Same H1 (upd (upd H1 dz (.own z)) z (.ins cRule dz [])) := fun b o hb => by
    rw [upd_ne (ne_of_none hb nz), upd_ne (ne_of_none hb ndz)]
    exact hb
  have R1 : RuleAt H1 d T q r := by
    obtain ⟨t, h1, h2⟩ := RA
    exact ⟨t, extTup e1 h1, extTup e1 h2⟩
  refine .inl ⟨z, dz, _, _, rfl, upd_same, dq_rule (R1.same sx), bd_of b l, fun w H' y s vd hy => ?_, fun T' q' r' e sh => ?_⟩
  · have e := wd_one (vd_wd f vd) wd
    injection e with e
    subst e
    exact acc y H' (sx.trans s) hy fun H2 s2 => kk H2 (e1.trans (ExtN.of s2)) (t1.ext s2)
  · obtain ⟨rfl, rfl, rfl⟩ := ruD_inj e
    exact nomatch wd_one wd (.inr ⟨sh.ok, .inr ⟨sh, rfl⟩⟩)
abbrev s_law : Stmt := topS 54
abbrev N_law : List Str := ["_law_script", "_law_deck_here", "_law_turn", "_law_drawn_here", "_law_short_here", "_law_wrong", "_law_made", "_law_one_here", "_law_word_here", "_law_falling"]
theorem sc_law : FnScope N_law ["_law_script"] (defScope s_law) := ⟨rfl, rfl, rfl, by decide +kernel, rfl, by decide +kernel, by decide +kernel⟩
abbrev X_law (P : Program) (w : World) (K : PySem.W.Frag) (mg : Str → Option Value) (base : Heap) (f c : Addr) (A : Around) (outer : List Env) (s : Shared) (H : Hp) (E : XK) : Cx := (cxOf CX0 P w K mg base N_law "law" (defScope s_law) f (.ref c) A outer s H E).nox
abbrev q_law : Str := ("law" : Str) ++ (".<locals>." : Str) ++ ("<lambda>" : Str)
theorem pe_bad_law {f c Pt : Addr} {A : Around} {outer : List Env} {s : Shared} {H : Hp} {E : XK} {body e2 : Expr} {cB : Addr} {te : XK → TE} {tv : L2.St → V → Prop} {p1 p6 p7 : Pos} (D : Df K mg "_law_is_bad" s_l_is_bad ["_law_call", "_law_word_here"])
    (hG : ∀ (g : Addr) (cdg : Value), Gives2 (X_law P w K mg base f c A outer s H E) N_l_is_bad "_law_is_bad" (defScope s_l_is_bad) g cdg (defBody s_l_is_bad) "_law_call" q_law (TBd K cB))
    (TB : TabB base mg c Pt) {TT : List (Addr × Str)} (hmT : (Pt, q_law) ∈ TT) (hu : ∀ p ∈ TT, p.1 = Pt → p.2 = q_law) (hr : Room 10 (X_law P w K mg base f c A outer s H E).A)
    {sc : Scope} (hL : lamSB (defScope s_law) sc = true) (hbody : ∀ (A' : Around) (outer' : List Env) (s' : Shared) (H' : Hp) (E' : XK) (f' c' : Addr), Room 8 (A'.deeper (lamEnv (X_law P w K mg base f c A outer s H E) sc s'.heap.objs.size f' c')) → PE (lamCx (X_law P w K mg base f c A outer s H E) A' outer' s' H' E' sc f' c') body (te E'))
    (st : Still (X_law P w K mg base f c A outer s H E) e2 tv)
    (hs : ∀ ps : Pos, backTo ps (starEach [.Lambda lamP body sc p6, e2] (X_law P w K mg base f c A outer s H E).env) = backTo ps ((false, eval (.Lambda lamP body sc p6) (X_law P w K mg base f c A outer s H E).env) :: (false, eval e2 (X_law P w K mg base f c A outer s H E).env) :: starEach [] (X_law P w K mg base f c A outer s H E).env) := by intro _; rfl)
    (he : starEach [.Lambda lamP body sc p6, e2] (X_law P w K mg base f c A outer s H E).env = (false, eval (.Lambda lamP body sc p6) (X_law P w K mg base f c A outer s H E).env) :: starEach [e2] (X_law P w K mg base f c A outer s H E).env := by rfl) (hpl : (backTo p7 (starEach [e2] (X_law P w K mg base f c A outer s H E).env)).any (·.1) = false := by rfl) :
    PE (X_law P w K mg base f c A outer s H E) (.Call (.Name "_law_is_bad" p1) [.Lambda lamP body sc p6, e2] [] p7) (tLam2E TT (TBd K cB) te tv) := by
  obtain ⟨g, fd, F, m, bd⟩ := D
  obtain ⟨oc, od, kV, doc, pm, an, cdv, ct, osl, rfl, look, coded⟩ := F.ex
  exact pe_lamcall2E (T := TT) (k := 8) (Ng := N_l_is_bad) rfl m F.kp look coded bd sc_l_is_bad rfl (by first | exact Or.inl rfl | exact Or.inr (Or.inl rfl) | exact Or.inr (Or.inr rfl)) (hG g cdv) TB rfl hmT hu hr (lamS_by hL) rfl (fun _ _ _ _ _ => rfl) (fun A' outer' s' H' E' f' c' hr' => hbody A' outer' s' H' E' f' c' hr') st hs he hpl
theorem ok_law {f c Pt fRt fRf : Addr} {fd fdI fdO fdRt fdRf : FuncData} (T : Txt mg) (R : TxR K mg cRule fRi fEq fLen fIt fStr fCa fOf pOf) (XBadRule : XVal K mg "BadRule" "error" cBadRule fB) (XC : XCg mg cChangeError) (kCE : PySem.W.kitOne K (.ref cBadRule) (.ref cChangeError) = some true)
    (F : Fun K "law" "law" s_law f fd) (code : fd.code = .ref c) (TB : TabB base mg c Pt) (hmT : (Pt, q_law) ∈ TT) (hu : ∀ p ∈ TT, p.1 = Pt → p.2 = q_law)
    (G_Rule_init : FnOk P w K mg base CX0 5 fRi fdI ["self", "value"] (sp_Rinit0 K cRule)) (GX_Rule_init : FnOk P w K mg base (L2.CX P w) 5 fRi fdI ["self", "value"] (sp_RinitX K cRule cBadRule)) (b_Rule_init : Binds K fdI ["self", "value"] [])
    (G_of : FnOk P w K mg base CX0 7 fOf fdO ["cls", "table", "period", "rise"] (sp_Rof0 cRule)) (GX_of : FnOk P w K mg base (L2.CX P w) 7 fOf fdO ["cls", "table", "period", "rise"] (sp_Rof cRule cBadRule)) (b_of : Binds K fdO ["cls", "table", "period", "rise"] [])
    (C_l_deck : Cal P w K mg base "_law_deck" ["_law_script"] 1 (sp_l_deck K)) (C_l_draw : Cal P w K mg base "_law_draw" ["_law_deck_here", "_law_many"] 1 (sp_l_draw K)) (C_l_drawn : Cal P w K mg base "_law_drawn" ["_law_deck_here", "_law_upto"] 2 (sp_l_drawn K)) (C_l_short : Cal P w K mg base "_law_short" ["_law_rule"] 3 (sp_l_short K)) (C_l_word : Cal P w K mg base "_law_word" ["_law_rule"] 4 (sp_l_word K))
    (G_l_right : FnG P w K mg base 8 fRt fdRt ["_law_deck_here", "_law_one_here", "_law_rule"] (sp_l_right K cRule)) (m_l_right : mg "_law_right" = some (.ref fRt)) (k_l_right : PySem.W.keepIn K (.ref fRt) = true) (b_l_right : L2.Binds K fdRt ["_law_deck_here", "_law_one_here", "_law_rule"] [])
    (G_l_refused : FnG P w K mg base 11 fRf fdRf ["_law_deck_here", "_law_rule"] (sp_l_refused K TT)) (m_l_refused : mg "_law_refused" = some (.ref fRf)) (k_l_refused : PySem.W.keepIn K (.ref fRf) = true) (b_l_refused : L2.Binds K fdRf ["_law_deck_here", "_law_rule"] [])
    (D_l_is_bad : Df K mg "_law_is_bad" s_l_is_bad ["_law_call", "_law_word_here"]) : FnG P w K mg base 12 f fd ["_law_script"] (sp_law K TT) := by
  obtain ⟨f_l_deck, fd_l_deck, G_l_deck, m_l_deck, k_l_deck, b_l_deck⟩ := C_l_deck
  obtain ⟨f_l_draw, fd_l_draw, G_l_draw, m_l_draw, k_l_draw, b_l_draw⟩ := C_l_draw
  obtain ⟨f_l_drawn, fd_l_drawn, G_l_drawn, m_l_drawn, k_l_drawn, b_l_drawn⟩ := C_l_drawn
  obtain ⟨f_l_short, fd_l_short, G_l_short, m_l_short, k_l_short, b_l_short⟩ := C_l_short
  obtain ⟨f_l_word, fd_l_word, G_l_word, m_l_word, k_l_word, b_l_word⟩ := C_l_word
  have g_Rule := R.g
  have Mk_Rule := R.mak
  have Cr_Rule := R.rd
  have Cm_Rule_of := R.cm
  have Fr_Rule_of : FnR P w K mg base CX0 7 fOf (sp_Rof0 cRule) := (G_of.raw b_of .nil).imp fun vs H Q E h => by rw [List.append_nil]; exact h
  have FXr_Rule_of : FnR P w K mg base (L2.CX P w) 7 fOf (sp_Rof cRule cBadRule) := (GX_of.raw b_of .nil).imp fun vs H Q E h => by rw [List.append_nil]; exact h
  refine FnG.bodyC (k := 11) F code sc_law (fun vs H Q E h => ?_) (fun A outer s H vs Q E gu hr h => ?_)
  · obtain ⟨a, ns, rfl, _⟩ := h
    rfl
  obtain ⟨a, ns, rfl, hS, hlen, tb0, kk⟩ := h
  have hG : ∀ (g : Addr) (cdg : Value), Gives2 (X_law P w K mg base f c A outer s H E) N_l_is_bad "_law_is_bad" (defScope s_l_is_bad) g cdg (defBody s_l_is_bad) "_law_call" q_law (TBd K cBadRule) := fun g cdg => bad_gives T XBadRule XC.gChangeError kCE gu (Nat.lt_of_le_of_lt (Nat.add_le_add_right (Nat.le_add_right _ _) 200) hr.un) g cdg
  refine ⟨_, (pss_cons (ps_set (i := 1) sc_law.nd rfl (Or.inl rfl) (pe_call G_l_deck (hr.mono (by decide)) (by rfl) m_l_deck k_l_deck b_l_deck .nil pass0 (pa_cons (pv 0) pa_nil)))
    (pss_cons (ps_for PassesOwn.never rfl (pi_range1 (by rfl) T.n_range (pa_cons pe_int pa_nil)) (pg_name (i := 2) sc_law.nd rfl (Or.inl rfl))
      (pss_cons (ps_set (i := 3) sc_law.nd rfl (Or.inr rfl) (pe_call G_l_drawn (hr.mono (by decide)) (by rfl) m_l_drawn k_l_drawn b_l_drawn .nil pass0 (pa_cons (pv 1) (pa_cons pe_int pa_nil))))
    (pss_cons (ps_set (i := 4) sc_law.nd rfl (Or.inl rfl) (pe_call G_l_short (hr.mono (by decide)) (by rfl) m_l_short k_l_short b_l_short .nil pass0 (pa_cons (pv 3) pa_nil)))
    (pss_cut (ps_set (i := 5) sc_law.nd rfl (Or.inr rfl) (pe_tup (pa_cons (pe_revT (pe_ix ix_tup (pv 3) pe_int (fun _ _ => rfl))) (pa_cons (pe_ix ix_tup (pv 3) pe_int (fun _ _ => rfl)) (pa_cons (pe_callB (call_max2 rfl) (by rfl) T.n_max (by decide +kernel) (pa_cons pe_int (pa_cons (pe_op op_sub (pe_ix ix_tup (pv 3) pe_int (fun _ _ => rfl)) (pe_call G_l_draw (hr.mono (by decide)) (by rfl) m_l_draw k_l_draw b_l_draw .nil pass0 (pa_cons (pv 1) (pa_cons pe_int pa_nil)))) pa_nil))) pa_nil)))))
    (pss_cut (ps_set (i := 6) sc_law.nd rfl (Or.inl rfl) (pe_lst (pa_cons (pe_make Mk_Rule G_Rule_init (hr.mono (by decide)) (by rfl) g_Rule b_Rule_init .nil pass0 (pa_cons (pv 4) pa_nil)) (pa_cons (ClX.pe_cmeth (pe_glob (v := .ref cRule) rfl g_Rule rfl) Cr_Rule Cm_Rule_of Fr_Rule_of (hr.mono (by decide)) pass0 (pa_cons (pe_ix ix_tup (pv 3) pe_int (fun _ _ => rfl)) (pa_cons (pe_ix ix_tup (pv 3) pe_int (fun _ _ => rfl)) (pa_cons (pe_ix ix_tup (pv 3) pe_int (fun _ _ => rfl)) pa_nil)))) pa_nil))))
    (pss_cut (ps_expr (pe_bm PySem.F.plainAttrs_list PySem.F.slot_list_append PySem.F.type_list_append mt_append (pv 6) (pa_cons (ClX.pe_cmeth (pe_glob (v := .ref cRule) rfl g_Rule rfl) Cr_Rule Cm_Rule_of Fr_Rule_of (hr.mono (by decide)) pass0 (pa_cons (pe_callTy call_list_of (by rfl) T.n_list (by decide +kernel) (pa_cons (pe_ix ix_tup (pv 3) pe_int (fun _ _ => rfl)) pa_nil)) (pa_cons (pe_ix ix_tup (pv 3) pe_int (fun _ _ => rfl)) (pa_cons (pe_ix ix_tup (pv 3) pe_int (fun _ _ => rfl)) pa_nil)))) pa_nil)))
    (pss_cut (ps_for PassesOwn.never rfl (pi_list (pv 6)) (pg_name (i := 7) sc_law.nd rfl (Or.inl rfl))
      (pss_one (ps_if (pt_not (pt_val (pe_callG G_l_right gu (hr.mono (by decide)) (by rfl) m_l_right k_l_right b_l_right (pa_cons (pv 1) (pa_cons (pv 7) (pa_cons (pv 4) pa_nil)))))) (pss_one (ps_ret pe_bl)) pss_nil)))
    (pss_cut (ps_if (PW.pt (pw_and (pt_cmpR op_notN (pe_call G_l_word (hr.mono (by decide)) (by rfl) m_l_word k_l_word b_l_word .nil pass0 (pa_cons (pv 3) pa_nil)) pe_non (nomark _)) (pw_and1 (pt_not (pt_val (pe_bad_law D_l_is_bad hG TB hmT hu (hr.mono (by decide)) (by decide +kernel) (fun _ _ _ _ _ _ _ hr => (pe_make Mk_Rule GX_Rule_init (hr.mono (by decide)) (by rfl) g_Rule b_Rule_init .nil (passE (takes_of rfl rfl rfl rfl)) (pa_cons (pv 3) pa_nil))) still_str)))))) (pss_one (ps_ret pe_bl)) pss_nil)
    (pss_cons (ps_set (i := 8) sc_law.nd rfl (Or.inl rfl) (pe_call G_l_word (hr.mono (by decide)) (by rfl) m_l_word k_l_word b_l_word .nil pass0 (pa_cons (pv 5) pa_nil)))
    (pss_cut (ps_if (PW.pt (pw_and (pt_cmpR op_notN (pv 8) pe_non (nomark _)) (pw_and1 (pt_not (pt_val (pe_bad_law D_l_is_bad hG TB hmT hu (hr.mono (by decide)) (by decide +kernel) (fun _ _ _ _ _ _ _ hr => (pe_make Mk_Rule GX_Rule_init (hr.mono (by decide)) (by rfl) g_Rule b_Rule_init .nil (passE (takes_of rfl rfl rfl rfl)) (pa_cons (pv 5) pa_nil))) (still_name (j := 8) rfl (Or.inl rfl)))))))) (pss_one (ps_ret pe_bl)) pss_nil)
    (pss_cons (ps_set (i := 9) sc_law.nd rfl (Or.inr rfl) (pe_callTy call_list_of (by rfl) T.n_list (by decide +kernel) (pa_cons (pe_ix ix_tup (pv 5) pe_int (fun _ _ => rfl)) pa_nil)))
    (pss_cut (ps_if (PW.pt (pw_and (pt_cmpR op_eq (pv 8) pe_str (nomark _)) (pw_and1 (pt_not (pt_val (pe_bad_law D_l_is_bad hG TB hmT hu (hr.mono (by decide)) (by decide +kernel) (fun _ _ _ _ _ _ _ hr => (ClX.pe_cmeth (pe_glob (v := .ref cRule) rfl g_Rule rfl) Cr_Rule Cm_Rule_of FXr_Rule_of (hr.mono (by decide)) (passE (takes_of rfl rfl rfl rfl)) (pa_cons (pv 9) (pa_cons (pe_ix (show IxR _ (rIxT K) from ix_tup) (pv 5) pe_int (fun _ _ => rfl)) (pa_cons (pe_ix (show IxR _ (rIxT K) from ix_tup) (pv 5) pe_int (fun _ _ => rfl)) pa_nil))))) (still_name (j := 8) rfl (Or.inl rfl)))))))) (pss_one (ps_ret pe_bl)) pss_nil)
    (pss_cut (ps_if (pt_not (pt_val (pe_callG G_l_refused gu (hr.mono (by decide)) (by rfl) m_l_refused k_l_refused b_l_refused (pa_cons (pv 1) (pa_cons (pv 4) pa_nil))))) (pss_one (ps_ret pe_bl)) pss_nil)
    (pss_one (ps_if (pt_not (pt_val (pe_bad_law D_l_is_bad hG TB hmT hu (hr.mono (by decide)) (by decide +kernel) (fun _ _ _ _ _ _ _ hr => (ClX.pe_cmeth (pe_glob (v := .ref cRule) rfl g_Rule rfl) Cr_Rule Cm_Rule_of FXr_Rule_of (hr.mono (by decide)) (passE (takes_of rfl rfl rfl rfl)) (pa_cons (pe_lst (pa_cons pe_int (pa_cons (pe_un un_neg pe_int) pa_nil))) (pa_cons pe_int (pa_cons pe_int pa_nil))))) still_str))) (pss_one (ps_ret pe_bl)) pss_nil)))))))))))))))
    (pss_one (ps_ret pe_bl)))), ?_⟩
  refine ⟨_, rfl, a, ns, rfl, hS, hlen, fun H1 p l s1 D1 => ?_⟩
  have tb1 := tb0.ext s1
  refine ⟨9, rfl, (by decide), (by decide), ?_⟩
  refine for_range (lo := 0) (n := 9) (fun i σ H' => ∃ (n : Int) (v2 v3 v4 v5 v6 v7 v8 v9 : Option V), σ = [some (.ref a), some (.ref p), v2, v3, v4, v5, v6, v7, v8, v9] ∧ Deck H' p l n ∧ Tabs TT H' ∧ 0 ≤ n ∧ n ≤ 1000 * (i : Int)) ?_ ?_ ?_
  · exact ⟨0, none, none, none, none, none, none, none, none, rfl, D1, tb1, by decide, by decide⟩
  · rintro i σ H2 hi ⟨n, v2, v3, v4, v5, v6, v7, v8, v9, rfl, D2, tb2, n0, n1⟩
    have hi : i < 9 := hi
    refine ⟨_, rfl, p, l, n, 6, rfl, D2, n0, by omega, by decide, by decide, fun H3 d T0 q r n3 f3 D3 a0 a1 RA o bm rb9 le6 => ?_⟩
    refine ⟨_, rfl, d, T0, q, r, 100, rfl, RA, o, bm, by decide, by decide, fun H4 ds S sp s s4 RS0 sh hv le bms => ?_⟩
    have RA4 := RA.same s4
    have D4 := D3.same s4
    have tb4 : Tabs TT H4 := Tabs.ext (Tabs.fr tb2 f3 D2) s4
    have p0 := o.p0
    have p1 := o.p1
    have r0 := o.r0
    have bl := bm.len
    have br := bm.r1
    refine ⟨fun σ H' => ∃ (n5 : Int) (dw : Addr) (r' : Int), σ = [some (.ref a), some (.ref p), some (.int (0 + (i : Int))), some (.ref d), some (.ref ds), some (.ref dw), v6, v7, v8, v9] ∧ Fr p l H4 H' ∧ Deck H' p l n5 ∧ n3 ≤ n5 ∧ n5 ≤ n3 + 1 ∧ RuleAt H' dw T0.reverse q r' ∧ 0 ≤ r' ∧ r' ≤ r, ?_, ?_⟩
    · obtain ⟨t, hd, ht⟩ := RA4
      refine ⟨_, rfl, _, _, _, _, rfl, rfl, SqT.of hd, atI_nat (j := 0) rfl, t, _, rfl, SqT.of ht, fun v nv => ?_⟩
      have sv := same_upd (o := .tup (T0.map V.int).reverse) nv
      have hv' : upd H4 v (.tup (T0.map V.int).reverse) v = some (.tup (T0.reverse.map V.int)) := by rw [upd_same, List.map_reverse]
      generalize upd H4 v (.tup (T0.map V.int).reverse) = H5 at sv hv' ⊢
      refine ⟨_, rfl, _, _, _, _, rfl, rfl, SqT.of (sv _ _ hd), atI_nat (j := 1) rfl, _, rfl, _, _, _, _, rfl, rfl, SqT.of (sv _ _ hd), atI_nat (j := 2) rfl, _, rfl, p, l, n3, 3, rfl, D4.same sv, by omega, by omega, by decide, by decide, fun y H6 y0 y1 f6 D6 => ?_⟩
      refine ⟨_, _, rfl, rfl, _, _, rfl, by show 3 ≤ sizeLine; decide, fun u nu => ?_⟩
      have su := same_upd (o := .tup [.ref v, .int (q : Int), .int (if r - y > 0 then r - y else 0)]) nu
      have hv6 := f6.tup (D4.same sv) hv'
      refine ⟨n3 + 1, u, if r - y > 0 then r - y else 0, rfl, (Same.fr sv).trans (f6.trans (Same.fr su)), D6.same su, by omega, by omega, ⟨v, upd_same, su _ _ hv6⟩, ?_, ?_⟩
      · split <;> omega
      · split <;> omega
    rintro σ H5 ⟨n5, dw, r', rfl, f5, D5, c0, c1, RW, w0, w1⟩
    have RD5 := RA4.fr f5 D4
    have RS5 := RS0.fr f5 D4
    have tb5 : Tabs TT H5 := Tabs.fr tb4 f5 D4
    have bsS : RB S sp s := (bms.up (N := 1000000) (by decide)).rb (by decide)
    have lS := bms.len
    refine ⟨fun σ H' => ∃ (M b1 b2 : Addr), σ = [some (.ref a), some (.ref p), some (.int (0 + (i : Int))), some (.ref d), some (.ref ds), some (.ref dw), some (.ref M), v7, v8, v9] ∧ Same H5 H' ∧ H5 M = none ∧ H' M = some (.lst [.ref b1, .ref b2]) ∧ RuleO cRule H' b1 S sp s ∧ RuleO cRule H' b2 S sp s, ?_, ?_⟩
    · refine ⟨_, rfl, new_rule RS5 sh bsS (by omega) fun z1 H6 s6 O1 => ?_⟩
      obtain ⟨t, hd, ht⟩ := RD5.same s6
      refine ⟨rfl, _, rfl, _, _, _, _, rfl, rfl, SqT.of hd, atI_nat (j := 0) rfl, _, rfl, _, _, _, _, rfl, rfl, SqT.of hd, atI_nat (j := 1) rfl, _, rfl, _, _, _, _, rfl, rfl, SqT.of hd, atI_nat (j := 2) rfl, ?_⟩
      refine ⟨t, T0, S, q, sp, r, s, rfl, .inr ht, by omega, o, bm.rb (by decide), sh, bsS, hv, fun H7 z2 s7 O2 => ?_⟩
      refine ⟨by show 2 ≤ sizeLine; decide, fun M nM => ?_⟩
      have sM := same_upd (o := .lst [.ref z1, .ref z2]) nM
      have s67 := s6.trans s7
      exact ⟨M, z1, z2, rfl, s67.trans sM, Same.free s67 nM, upd_same, (O1.same s7).same sM, O2.same sM⟩
    rintro σ H6 ⟨M, b1, b2, rfl, s6, nM, hM, O1, O2⟩
    refine ⟨fun σ H' => ∃ (b3 : Addr), σ = [some (.ref a), some (.ref p), some (.int (0 + (i : Int))), some (.ref d), some (.ref ds), some (.ref dw), some (.ref M), v7, v8, v9] ∧ Same H5 H' ∧ H' M = some (.lst [.ref b1, .ref b2, .ref b3]) ∧ RuleO cRule H' b1 S sp s ∧ RuleO cRule H' b2 S sp s ∧ RuleO cRule H' b3 S sp s, ?_, ?_⟩
    · obtain ⟨t, hd, ht⟩ := RD5.same s6
      refine ⟨_, rfl, .inl ⟨rfl, _, SqL.of hM⟩, rfl, _, rfl, _, _, _, _, rfl, rfl, SqT.of hd, atI_nat (j := 0) rfl, t, _, rfl, .inr (SqT.of ht), fun L nL => ?_⟩
      have sL := same_upd (o := .lst (T0.map V.int)) nL
      have hL : upd H6 L (.lst (T0.map V.int)) L = some (.lst (T0.map V.int)) := upd_same
      generalize upd H6 L (.lst (T0.map V.int)) = H7 at sL hL ⊢
      refine ⟨_, rfl, _, _, _, _, rfl, rfl, SqT.of (sL _ _ hd), atI_nat (j := 1) rfl, _, rfl, _, _, _, _, rfl, rfl, SqT.of (sL _ _ hd), atI_nat (j := 2) rfl, ?_⟩
      refine ⟨L, T0, S, q, sp, r, s, rfl, .inl hL, by omega, o, bm.rb (by decide), sh, bsS, hv, fun H8 z3 s8 O3 => ?_⟩
      have s78 := sL.trans s8
      have hM8 := s78 _ _ hM
      have nb : ∀ {z : Addr}, RuleO cRule H8 z S sp s → RuleO cRule (upd H8 M (.lst [.ref b1, .ref b2, .ref z3])) z S sp s := fun {z} h => by
        obtain ⟨dx, dd, tt, h1, h2, h3⟩ := h
        exact ⟨dx, dd, tt, by rw [upd_ne (ne_of h1 hM8 (fun z => nomatch z))]; exact h1, by rw [upd_ne (ne_of h2 hM8 (fun z => nomatch z))]; exact h2, by rw [upd_ne (ne_of h3 hM8 (fun z => nomatch z))]; exact h3⟩
      refine ⟨M, _, _, rfl, rfl, hM8, by show 2 < sizeLine; decide, z3, rfl, fun b o e => ?_, upd_same, nb (O1.same s78), nb (O2.same s78), nb O3⟩
      rw [upd_ne (ne_of_none e nM)]
      exact s78 _ _ (s6 _ _ e)
    clear hM O1 O2 s6
    rintro σ H6 ⟨b3, rfl, s6, hM, O1, O2, O3⟩
    have RD6 := RD5.same s6
    have RS6 := RS5.same s6
    have RW6 := RW.same s6
    have D6 := D5.same s6
    have tb6 : Tabs TT H6 := Tabs.ext tb5 s6
    have nMp : M ≠ p ∧ M ≠ l := D5.lne nM
    refine ⟨fun σ H' => ∃ (n7 : Int) (v7 : Option V), σ = [some (.ref a), some (.ref p), some (.int (0 + (i : Int))), some (.ref d), some (.ref ds), some (.ref dw), some (.ref M), v7, v8, v9] ∧ Fr p l H6 H' ∧ Deck H' p l n7 ∧ n5 ≤ n7 ∧ n7 ≤ n5 + 15, ?_, ?_⟩
    · refine ⟨_, rfl, M, rfl, ⟨_, SqL.of hM⟩, ?_⟩
      refine for_list (K := K) (a := M) (xs := [.ref b1, .ref b2, .ref b3]) (fun k σ H' => ∃ (n7 : Int) (v7 : Option V), σ = [some (.ref a), some (.ref p), some (.int (0 + (i : Int))), some (.ref d), some (.ref ds), some (.ref dw), some (.ref M), v7, v8, v9] ∧ Fr p l H6 H' ∧ Deck H' p l n7 ∧ n5 ≤ n7 ∧ n7 ≤ n5 + 5 * (k : Int)) ⟨n5, v7, rfl, (fun _ _ _ _ e => e), D6, Int.le_refl _, by omega⟩ (fun k σ H' _ h => by
        obtain ⟨_, _, _, f', _⟩ := h
        exact SqL.of (f' _ _ nMp.1 nMp.2 hM)) ?_ ?_
      · rintro k x σ H7 hx ⟨n7, v7, rfl, f7, D7, e0, e1⟩
        have hk : k < 3 := (List.getElem?_eq_some_iff.mp hx).1
        obtain ⟨z, rfl, Oz⟩ : ∃ z, x = .ref z ∧ RuleO cRule H6 z S sp s := by
          have hx := List.mem_of_getElem? hx
          simp only [List.mem_cons, List.not_mem_nil, or_false] at hx
          rcases hx with rfl | rfl | rfl
          · exact ⟨_, rfl, O1⟩
          · exact ⟨_, rfl, O2⟩
          · exact ⟨_, rfl, O3⟩
        refine ⟨_, rfl, _, rfl, _, rfl, p, l, z, ds, n7, S, sp, s, rfl, D7, by omega, by omega, Oz.fr f7 D6, RS6.fr f7 D6, sh, bms.up (by decide), fun H8 n8 f8 D8 g0 g1 => ?_⟩
        exact ⟨_, rfl, iteF ⟨n8, _, rfl, f7.trans f8, D8, by omega, by omega⟩⟩
      · rintro σ H7 ⟨n7, v7, rfl, f7, D7, e0, e1⟩
        exact ⟨n7, v7, rfl, f7, D7, e0, by simpa using e1⟩
    rintro σ H7 ⟨n7, v7, rfl, f7, D7, e0, e1⟩
    have RD7 := RD6.fr f7 D6
    have RS7 := RS6.fr f7 D6
    have RW7 := RW6.fr f7 D6
    have tb7 : Tabs TT H7 := Tabs.fr tb6 f7 D6
    have fo := formOk_of o
    refine ⟨fun σ H' => σ = [some (.ref a), some (.ref p), some (.int (0 + (i : Int))), some (.ref d), some (.ref ds), some (.ref dw), some (.ref M), v7, v8, v9] ∧ ExtN H7 H' ∧ Tabs TT H', ?_, ?_⟩
    · refine ⟨_, rfl, d, T0, q, r, 100, rfl, RD7, o.w, bm, by decide, by decide, o.nn, fun w H8 s8 wd => ⟨rfl, _, rfl, ?_⟩⟩
      rcases id wd with ⟨no, _⟩ | ⟨_, ⟨_, rfl⟩ | ⟨_, rfl⟩⟩
      · exact absurd o no
      · refine iteNN (fun e => nomatch e) ?_
        refine bad_told (tv := fun _ v => v = .str "long") (j := 3) (Tabs.ext tb7 s8) rfl (RD7.same s8) fo (bm.rb (by decide)) (by omega) wd (by decide +kernel) rfl fun H9 e9 t9 => ?_
        exact ⟨_, rfl, iteF ⟨rfl, (ExtN.of s8).trans e9, t9⟩⟩
      · exact iteNP rfl ⟨rfl, ExtN.of s8, Tabs.ext tb7 s8⟩
    rintro σ H8 ⟨rfl, e8, tb8⟩
    have D8 := D7.ext e8
    have RW8 : RuleAt H8 dw T0.reverse q r' := RW7.frN (FrN.ext e8) D7
    have RS8 : RuleAt H8 ds S sp s := RS7.frN (FrN.ext e8) D7
    have lr : T0.reverse.length = T0.length := List.length_reverse
    have mr : ∀ i, i < T0.reverse.length → 0 ≤ T0.reverse.getD i 0 ∧ T0.reverse.getD i 0 ≤ 100 := fun i hi => by
      rw [lr] at hi
      have e : T0.reverse.getD i 0 = T0.getD (T0.length - 1 - i) 0 := by
        rw [List.getD_eq_getElem?_getD, List.getElem?_reverse hi, List.getD_eq_getElem?_getD]
      rw [e]
      exact ⟨o.nn _ (by omega), bm.top _ (by omega)⟩
    have ww : RuleW T0.reverse q r' := ⟨p0, by rw [lr]; exact p1, w0⟩
    have wm : RM 100 T0.reverse q r' := ⟨by rw [lr]; exact bl, by omega, fun i hi => (mr i hi).2⟩
    have fw : FormOk T0.reverse (q : Int) r' := ⟨by omega, by rw [lr]; omega, w0, fun i hi => (mr i hi).1⟩
    refine ⟨_, rfl, dw, T0.reverse, q, r', 100, rfl, RW8, ww, wm, by decide, by decide, fun i hi => (mr i hi).1, fun w H9 s9 wd => ?_⟩
    have RW9 := RW8.same s9
    have RS9 := RS8.same s9
    have D9 := D8.same s9
    have tb9 : Tabs TT H9 := Tabs.ext tb8 s9
    refine ⟨fun σ H' => σ = [some (.ref a), some (.ref p), some (.int (0 + (i : Int))), some (.ref d), some (.ref ds), some (.ref dw), some (.ref M), v7, some w, v9] ∧ ExtN H9 H' ∧ Tabs TT H', ?_, ?_⟩
    · refine ⟨_, rfl, rfl, _, rfl, ?_⟩
      rcases id wd with ⟨_, rfl⟩ | ⟨_, ⟨_, rfl⟩ | ⟨_, rfl⟩⟩
      · refine iteNN (fun e => nomatch e) ?_
        refine bad_told (tv := fun σ v => σ[8]? = some (some v)) (j := 5) tb9 rfl RW9 fw (wm.rb (by decide)) (by omega) wd (by decide +kernel) rfl fun H9 e9 t9 => ?_
        exact ⟨_, rfl, iteF ⟨rfl, e9, t9⟩⟩
      · refine iteNN (fun e => nomatch e) ?_
        refine bad_told (tv := fun σ v => σ[8]? = some (some v)) (j := 5) tb9 rfl RW9 fw (wm.rb (by decide)) (by omega) wd (by decide +kernel) rfl fun H9 e9 t9 => ?_
        exact ⟨_, rfl, iteF ⟨rfl, e9, t9⟩⟩
      · exact iteNP rfl ⟨rfl, ExtN.refl _, tb9⟩
    rintro σ H10 ⟨rfl, e10, tb10⟩
    have D10 := D9.ext e10
    have RW10 : RuleAt H10 dw T0.reverse q r' := RW9.frN (FrN.ext e10) D9
    have RS10 : RuleAt H10 ds S sp s := RS9.frN (FrN.ext e10) D9
    obtain ⟨tw, hdw, htw⟩ := id RW10
    refine ⟨_, rfl, _, _, _, _, rfl, rfl, SqT.of hdw, atI_nat (j := 0) rfl, tw, _, rfl, .inr (SqT.of htw), fun L nL => ?_⟩
    have sL := same_upd (o := .lst (T0.reverse.map V.int)) nL
    have hL : upd H10 L (.lst (T0.reverse.map V.int)) L = some (.lst (T0.reverse.map V.int)) := upd_same
    generalize upd H10 L (.lst (T0.reverse.map V.int)) = H11 at sL hL ⊢
    have D11 := D10.same sL
    have tb11 : Tabs TT H11 := Tabs.ext tb10 sL
    have RS11 := RS10.same sL
    have hdw11 := sL _ _ hdw
    refine ⟨fun σ H' => σ = [some (.ref a), some (.ref p), some (.int (0 + (i : Int))), some (.ref d), some (.ref ds), some (.ref dw), some (.ref M), v7, some w, some (.ref L)] ∧ ExtN H11 H' ∧ Tabs TT H', ?_, ?_⟩
    · refine ⟨_, rfl, ?_⟩
      rcases id wd with ⟨no, rfl⟩ | ⟨_, ⟨_, rfl⟩ | ⟨_, rfl⟩⟩
      · refine ⟨rfl, _, rfl, ?_⟩
        rw [decide_eq_true rfl]
        refine iteT ?_
        refine ⟨tb11, _, rfl, fun H12 e12 t12 => ⟨"falls", rfl, by decide +kernel, fun out Q' acc => ?_⟩⟩
        have h1 := extTup e12 hdw11
        have h2 := extLst e12 hL
        refine ⟨rfl, _, rfl, _, rfl, _, _, _, _, rfl, rfl, SqT.of h1, atI_nat (j := 1) rfl, _, rfl, _, _, _, _, rfl, rfl, SqT.of h1, atI_nat (j := 2) rfl, ?_⟩
        refine ⟨L, T0.reverse, (q : Int), r', rfl, .inl h2, by omega, fun _ _ _ _ _ _ ok => absurd (by rwa [Int.toNat_natCast] at ok) no, fun _ => by rw [Int.toNat_natCast]; exact wm.rb (by decide), fun nf => absurd fw nf, fun _ _ H' y s hy => ?_, fun _ ok => absurd (by rwa [Int.toNat_natCast] at ok) no⟩
        refine acc y H' s hy fun H2 s2 => ?_
        exact ⟨_, rfl, iteF ⟨rfl, e12.trans (ExtN.of s2), Tabs.ext t12 s2⟩⟩
      · refine ⟨rfl, _, rfl, ?_⟩
        rw [decide_eq_false (fun e => nomatch e)]
        exact iteF ⟨rfl, ExtN.refl _, tb11⟩
      · refine ⟨rfl, _, rfl, ?_⟩
        rw [decide_eq_false (fun e => nomatch e)]
        exact iteF ⟨rfl, ExtN.refl _, tb11⟩
    rintro σ H12 ⟨rfl, e12, tb12⟩
    have D12 := D11.ext e12
    have RS12 : RuleAt H12 ds S sp s := RS11.frN (FrN.ext e12) D11
    refine ⟨fun σ H' => ∃ n8 : Int, σ = [some (.ref a), some (.ref p), some (.int (0 + (i : Int))), some (.ref d), some (.ref ds), some (.ref dw), some (.ref M), v7, some w, some (.ref L)] ∧ Deck H' p l n8 ∧ n7 ≤ n8 ∧ n8 ≤ n7 + 5 ∧ Tabs TT H', ?_, ?_⟩
    · refine ⟨_, rfl, _, rfl, p, l, ds, n7, S, sp, s, rfl, D12, by omega, by omega, RS12, sh, bms.up (by decide), tb12, fun H13 n8 f13 D13 g0 g1 tb13 => ?_⟩
      exact ⟨_, rfl, iteF ⟨n8, rfl, D13, g0, g1, tb13⟩⟩
    rintro σ H13 ⟨n8, rfl, D13, g0, g1, tb13⟩
    refine ⟨tb13, _, rfl, fun H14 e14 t14 => ⟨"form", rfl, by decide +kernel, fun out Q' acc => ?_⟩⟩
    refine ⟨rfl, _, rfl, by show 2 ≤ sizeLine; decide, fun L2 nL2 => ?_⟩
    have s15 := same_upd (o := .lst [.int 0, .int (-1)]) nL2
    have bad : ∀ {A : Prop}, FormOk [0, -1] 1 1 → A := fun f => by
      have : (0 : Int) ≤ -1 := f.2.2.2 1 (by decide)
      omega
    have bad2 : ∀ {A : Prop}, RuleOk [0, -1] (Int.toNat 1) 1 → A := fun f => by
      have : (0 : Int) ≤ -1 := f.nn 1 (by decide)
      omega
    refine ⟨L2, [0, -1], 1, 1, rfl, .inl upd_same, by decide, fun _ _ _ _ _ _ f => bad2 f, fun f => bad2 f, fun _ H' y s' hy => ?_, fun f => bad f, fun f => bad f⟩
    refine acc y H' (s15.trans s') hy fun H2 s2 => ?_
    exact ⟨_, rfl, iteF ⟨n8, _, _, _, _, _, _, _, _, rfl, (D13.ext e14).same s2, Tabs.ext t14 s2, by omega, by omega⟩⟩
  · rintro σ H2 ⟨n, v2, v3, v4, v5, v6, v7, v8, v9, rfl, D2, tb2, n0, n1⟩
    exact kk H2
end
end Sm

set_option Elab.async false
set_option linter.all false
set_option maxRecDepth 100000
set_option maxHeartbeats 16000000
namespace Sm
open PySem PySem.Spec PyProof.Rows L2 LamX
theorem inT2 {α : Type} {p : α → Prop} {a0 a1 : α} (x0 : p a0) (x1 : p a1) : ∀ t ∈ [a0, a1], p t := by
  intro t ht
  simp only [List.mem_cons, List.not_mem_nil, or_false] at ht
  rcases ht with rfl | rfl
  · exact x0
  · exact x1
theorem all_mk {l : PySem.W.OpenLaw} {w : World} {K : PySem.W.Frag} {h : Heap} {mg : Str → Option Value} {fa : Addr} (X : K.In h) (G : h.Ns mainGlobals mg) (hfa : mg "law" = some (.ref fa)) {q : Program} (own : ∀ (nm : Str) (f : Addr), ((recsOf q).any fun e => e.name == nm) = true → mg nm = some (.ref f) → LamX.OwnTab K f h) {cS cL : Addr}
    {F_is_whole : Addr} {od_is_whole an_is_whole : Option Addr} {sl_is_whole : Array (Option Value)} {oc_is_whole kV_is_whole dc_is_whole pm_is_whole cd_is_whole ct_is_whole : Value} (a_is_whole : PySem.W.nsIn K mainGlobals "is_whole" = some (some (.ref F_is_whole))) (l_is_whole : K.lookup F_is_whole = some ⟨oc_is_whole, od_is_whole, .func (PySem.W.fnOf "is_whole" "is_whole" (defArgs s_is_whole) (defBody s_is_whole) (defScope s_is_whole) .none kV_is_whole dc_is_whole pm_is_whole an_is_whole cd_is_whole ct_is_whole), sl_is_whole⟩) (c_is_whole : PySem.W.codeIn K cd_is_whole "is_whole" = true) (k_is_whole : PySem.W.keepIn K (.ref F_is_whole) = true)
    {F_is_amount : Addr} {od_is_amount an_is_amount : Option Addr} {sl_is_amount : Array (Option Value)} {oc_is_amount kV_is_amount dc_is_amount pm_is_amount cd_is_amount ct_is_amount : Value} (a_is_amount : PySem.W.nsIn K mainGlobals "is_amount" = some (some (.ref F_is_amount))) (l_is_amount : K.lookup F_is_amount = some ⟨oc_is_amount, od_is_amount, .func (PySem.W.fnOf "is_amount" "is_amount" (defArgs s_is_amount) (defBody s_is_amount) (defScope s_is_amount) .none kV_is_amount dc_is_amount pm_is_amount an_is_amount cd_is_amount ct_is_amount), sl_is_amount⟩) (c_is_amount : PySem.W.codeIn K cd_is_amount "is_amount" = true) (k_is_amount : PySem.W.keepIn K (.ref F_is_amount) = true)
    {F_rule_error : Addr} {od_rule_error an_rule_error : Option Addr} {sl_rule_error : Array (Option Value)} {oc_rule_error kV_rule_error dc_rule_error pm_rule_error cd_rule_error ct_rule_error : Value} (a_rule_error : PySem.W.nsIn K mainGlobals "rule_error" = some (some (.ref F_rule_error))) (l_rule_error : K.lookup F_rule_error = some ⟨oc_rule_error, od_rule_error, .func (PySem.W.fnOf "rule_error" "rule_error" (defArgs s_rule_error) (defBody s_rule_error) (defScope s_rule_error) .none kV_rule_error dc_rule_error pm_rule_error an_rule_error cd_rule_error ct_rule_error), sl_rule_error⟩) (c_rule_error : PySem.W.codeIn K cd_rule_error "rule_error" = true) (k_rule_error : PySem.W.keepIn K (.ref F_rule_error) = true)
    {F_told_error : Addr} {od_told_error an_told_error : Option Addr} {sl_told_error : Array (Option Value)} {oc_told_error kV_told_error dc_told_error pm_told_error cd_told_error ct_told_error : Value} (a_told_error : PySem.W.nsIn K mainGlobals "told_error" = some (some (.ref F_told_error))) (l_told_error : K.lookup F_told_error = some ⟨oc_told_error, od_told_error, .func (PySem.W.fnOf "told_error" "told_error" (defArgs s_told_error) (defBody s_told_error) (defScope s_told_error) .none kV_told_error dc_told_error pm_told_error an_told_error cd_told_error ct_told_error), sl_told_error⟩) (c_told_error : PySem.W.codeIn K cd_told_error "told_error" = true) (k_told_error : PySem.W.keepIn K (.ref F_told_error) = true)
    {F_canonical : Addr} {od_canonical an_canonical : Option Addr} {sl_canonical : Array (Option Value)} {oc_canonical kV_canonical dc_canonical pm_canonical cd_canonical ct_canonical : Value} (a_canonical : PySem.W.nsIn K mainGlobals "canonical" = some (some (.ref F_canonical))) (l_canonical : K.lookup F_canonical = some ⟨oc_canonical, od_canonical, .func (PySem.W.fnOf "canonical" "canonical" (defArgs s_canonical) (defBody s_canonical) (defScope s_canonical) .none kV_canonical dc_canonical pm_canonical an_canonical cd_canonical ct_canonical), sl_canonical⟩) (c_canonical : PySem.W.codeIn K cd_canonical "canonical" = true) (k_canonical : PySem.W.keepIn K (.ref F_canonical) = true)
    {F_shortest : Addr} {od_shortest an_shortest : Option Addr} {sl_shortest : Array (Option Value)} {oc_shortest kV_shortest dc_shortest pm_shortest cd_shortest ct_shortest : Value} (a_shortest : PySem.W.nsIn K mainGlobals "shortest" = some (some (.ref F_shortest))) (l_shortest : K.lookup F_shortest = some ⟨oc_shortest, od_shortest, .func (PySem.W.fnOf "shortest" "shortest" (defArgs s_shortest) (defBody s_shortest) (defScope s_shortest) .none kV_shortest dc_shortest pm_shortest an_shortest cd_shortest ct_shortest), sl_shortest⟩) (c_shortest : PySem.W.codeIn K cd_shortest "shortest" = true) (k_shortest : PySem.W.keepIn K (.ref F_shortest) = true)
    {F_cycle_of : Addr} {od_cycle_of an_cycle_of : Option Addr} {sl_cycle_of : Array (Option Value)} {oc_cycle_of kV_cycle_of dc_cycle_of pm_cycle_of cd_cycle_of ct_cycle_of : Value} (a_cycle_of : PySem.W.nsIn K mainGlobals "cycle_of" = some (some (.ref F_cycle_of))) (l_cycle_of : K.lookup F_cycle_of = some ⟨oc_cycle_of, od_cycle_of, .func (PySem.W.fnOf "cycle_of" "cycle_of" (defArgs s_cycle_of) (defBody s_cycle_of) (defScope s_cycle_of) .none kV_cycle_of dc_cycle_of pm_cycle_of an_cycle_of cd_cycle_of ct_cycle_of), sl_cycle_of⟩) (c_cycle_of : PySem.W.codeIn K cd_cycle_of "cycle_of" = true) (k_cycle_of : PySem.W.keepIn K (.ref F_cycle_of) = true)
    {F_value_of : Addr} {od_value_of an_value_of : Option Addr} {sl_value_of : Array (Option Value)} {oc_value_of kV_value_of dc_value_of pm_value_of cd_value_of ct_value_of : Value} (a_value_of : PySem.W.nsIn K mainGlobals "value_of" = some (some (.ref F_value_of))) (l_value_of : K.lookup F_value_of = some ⟨oc_value_of, od_value_of, .func (PySem.W.fnOf "value_of" "value_of" (defArgs s_value_of) (defBody s_value_of) (defScope s_value_of) .none kV_value_of dc_value_of pm_value_of an_value_of cd_value_of ct_value_of), sl_value_of⟩) (c_value_of : PySem.W.codeIn K cd_value_of "value_of" = true) (k_value_of : PySem.W.keepIn K (.ref F_value_of) = true)
    {F_spaced : Addr} {od_spaced an_spaced : Option Addr} {sl_spaced : Array (Option Value)} {oc_spaced kV_spaced dc_spaced pm_spaced cd_spaced ct_spaced : Value} (a_spaced : PySem.W.nsIn K mainGlobals "spaced" = some (some (.ref F_spaced))) (l_spaced : K.lookup F_spaced = some ⟨oc_spaced, od_spaced, .func (PySem.W.fnOf "spaced" "spaced" (defArgs s_spaced) (defBody s_spaced) (defScope s_spaced) .none kV_spaced dc_spaced pm_spaced an_spaced cd_spaced ct_spaced), sl_spaced⟩) (c_spaced : PySem.W.codeIn K cd_spaced "spaced" = true) (k_spaced : PySem.W.keepIn K (.ref F_spaced) = true)
    {F_l_deck : Addr} {od_l_deck an_l_deck : Option Addr} {sl_l_deck : Array (Option Value)} {oc_l_deck kV_l_deck dc_l_deck pm_l_deck cd_l_deck ct_l_deck : Value} (a_l_deck : PySem.W.nsIn K mainGlobals "_law_deck" = some (some (.ref F_l_deck))) (l_l_deck : K.lookup F_l_deck = some ⟨oc_l_deck, od_l_deck, .func (PySem.W.fnOf "_law_deck" "_law_deck" (defArgs s_l_deck) (defBody s_l_deck) (defScope s_l_deck) .none kV_l_deck dc_l_deck pm_l_deck an_l_deck cd_l_deck ct_l_deck), sl_l_deck⟩) (c_l_deck : PySem.W.codeIn K cd_l_deck "_law_deck" = true) (k_l_deck : PySem.W.keepIn K (.ref F_l_deck) = true)
    {F_l_draw : Addr} {od_l_draw an_l_draw : Option Addr} {sl_l_draw : Array (Option Value)} {oc_l_draw kV_l_draw dc_l_draw pm_l_draw cd_l_draw ct_l_draw : Value} (a_l_draw : PySem.W.nsIn K mainGlobals "_law_draw" = some (some (.ref F_l_draw))) (l_l_draw : K.lookup F_l_draw = some ⟨oc_l_draw, od_l_draw, .func (PySem.W.fnOf "_law_draw" "_law_draw" (defArgs s_l_draw) (defBody s_l_draw) (defScope s_l_draw) .none kV_l_draw dc_l_draw pm_l_draw an_l_draw cd_l_draw ct_l_draw), sl_l_draw⟩) (c_l_draw : PySem.W.codeIn K cd_l_draw "_law_draw" = true) (k_l_draw : PySem.W.keepIn K (.ref F_l_draw) = true)
    {F_l_one : Addr} {od_l_one an_l_one : Option Addr} {sl_l_one : Array (Option Value)} {oc_l_one kV_l_one dc_l_one pm_l_one cd_l_one ct_l_one : Value} (a_l_one : PySem.W.nsIn K mainGlobals "_law_one" = some (some (.ref F_l_one))) (l_l_one : K.lookup F_l_one = some ⟨oc_l_one, od_l_one, .func (PySem.W.fnOf "_law_one" "_law_one" (defArgs s_l_one) (defBody s_l_one) (defScope s_l_one) .none kV_l_one dc_l_one pm_l_one an_l_one cd_l_one ct_l_one), sl_l_one⟩) (c_l_one : PySem.W.codeIn K cd_l_one "_law_one" = true) (k_l_one : PySem.W.keepIn K (.ref F_l_one) = true)
    {F_l_drawn : Addr} {od_l_drawn an_l_drawn : Option Addr} {sl_l_drawn : Array (Option Value)} {oc_l_drawn kV_l_drawn dc_l_drawn pm_l_drawn cd_l_drawn ct_l_drawn : Value} (a_l_drawn : PySem.W.nsIn K mainGlobals "_law_drawn" = some (some (.ref F_l_drawn))) (l_l_drawn : K.lookup F_l_drawn = some ⟨oc_l_drawn, od_l_drawn, .func (PySem.W.fnOf "_law_drawn" "_law_drawn" (defArgs s_l_drawn) (defBody s_l_drawn) (defScope s_l_drawn) .none kV_l_drawn dc_l_drawn pm_l_drawn an_l_drawn cd_l_drawn ct_l_drawn), sl_l_drawn⟩) (c_l_drawn : PySem.W.codeIn K cd_l_drawn "_law_drawn" = true) (k_l_drawn : PySem.W.keepIn K (.ref F_l_drawn) = true)
    {F_l_value : Addr} {od_l_value an_l_value : Option Addr} {sl_l_value : Array (Option Value)} {oc_l_value kV_l_value dc_l_value pm_l_value cd_l_value ct_l_value : Value} (a_l_value : PySem.W.nsIn K mainGlobals "_law_value" = some (some (.ref F_l_value))) (l_l_value : K.lookup F_l_value = some ⟨oc_l_value, od_l_value, .func (PySem.W.fnOf "_law_value" "_law_value" (defArgs s_l_value) (defBody s_l_value) (defScope s_l_value) .none kV_l_value dc_l_value pm_l_value an_l_value cd_l_value ct_l_value), sl_l_value⟩) (c_l_value : PySem.W.codeIn K cd_l_value "_law_value" = true) (k_l_value : PySem.W.keepIn K (.ref F_l_value) = true)
    {F_l_fits : Addr} {od_l_fits an_l_fits : Option Addr} {sl_l_fits : Array (Option Value)} {oc_l_fits kV_l_fits dc_l_fits pm_l_fits cd_l_fits ct_l_fits : Value} (a_l_fits : PySem.W.nsIn K mainGlobals "_law_fits" = some (some (.ref F_l_fits))) (l_l_fits : K.lookup F_l_fits = some ⟨oc_l_fits, od_l_fits, .func (PySem.W.fnOf "_law_fits" "_law_fits" (defArgs s_l_fits) (defBody s_l_fits) (defScope s_l_fits) .none kV_l_fits dc_l_fits pm_l_fits an_l_fits cd_l_fits ct_l_fits), sl_l_fits⟩) (c_l_fits : PySem.W.codeIn K cd_l_fits "_law_fits" = true) (k_l_fits : PySem.W.keepIn K (.ref F_l_fits) = true)
    {F_l_short : Addr} {od_l_short an_l_short : Option Addr} {sl_l_short : Array (Option Value)} {oc_l_short kV_l_short dc_l_short pm_l_short cd_l_short ct_l_short : Value} (a_l_short : PySem.W.nsIn K mainGlobals "_law_short" = some (some (.ref F_l_short))) (l_l_short : K.lookup F_l_short = some ⟨oc_l_short, od_l_short, .func (PySem.W.fnOf "_law_short" "_law_short" (defArgs s_l_short) (defBody s_l_short) (defScope s_l_short) .none kV_l_short dc_l_short pm_l_short an_l_short cd_l_short ct_l_short), sl_l_short⟩) (c_l_short : PySem.W.codeIn K cd_l_short "_law_short" = true) (k_l_short : PySem.W.keepIn K (.ref F_l_short) = true)
    {F_l_odd : Addr} {od_l_odd an_l_odd : Option Addr} {sl_l_odd : Array (Option Value)} {oc_l_odd kV_l_odd dc_l_odd pm_l_odd cd_l_odd ct_l_odd : Value} (a_l_odd : PySem.W.nsIn K mainGlobals "_law_odd" = some (some (.ref F_l_odd))) (l_l_odd : K.lookup F_l_odd = some ⟨oc_l_odd, od_l_odd, .func (PySem.W.fnOf "_law_odd" "_law_odd" (defArgs s_l_odd) (defBody s_l_odd) (defScope s_l_odd) .none kV_l_odd dc_l_odd pm_l_odd an_l_odd cd_l_odd ct_l_odd), sl_l_odd⟩) (c_l_odd : PySem.W.codeIn K cd_l_odd "_law_odd" = true) (k_l_odd : PySem.W.keepIn K (.ref F_l_odd) = true)
    {F_l_word : Addr} {od_l_word an_l_word : Option Addr} {sl_l_word : Array (Option Value)} {oc_l_word kV_l_word dc_l_word pm_l_word cd_l_word ct_l_word : Value} (a_l_word : PySem.W.nsIn K mainGlobals "_law_word" = some (some (.ref F_l_word))) (l_l_word : K.lookup F_l_word = some ⟨oc_l_word, od_l_word, .func (PySem.W.fnOf "_law_word" "_law_word" (defArgs s_l_word) (defBody s_l_word) (defScope s_l_word) .none kV_l_word dc_l_word pm_l_word an_l_word cd_l_word ct_l_word), sl_l_word⟩) (c_l_word : PySem.W.codeIn K cd_l_word "_law_word" = true) (k_l_word : PySem.W.keepIn K (.ref F_l_word) = true)
    {F_l_is_bad : Addr} {od_l_is_bad an_l_is_bad : Option Addr} {sl_l_is_bad : Array (Option Value)} {oc_l_is_bad kV_l_is_bad dc_l_is_bad pm_l_is_bad cd_l_is_bad ct_l_is_bad : Value} (a_l_is_bad : PySem.W.nsIn K mainGlobals "_law_is_bad" = some (some (.ref F_l_is_bad))) (l_l_is_bad : K.lookup F_l_is_bad = some ⟨oc_l_is_bad, od_l_is_bad, .func (PySem.W.fnOf "_law_is_bad" "_law_is_bad" (defArgs s_l_is_bad) (defBody s_l_is_bad) (defScope s_l_is_bad) .none kV_l_is_bad dc_l_is_bad pm_l_is_bad an_l_is_bad cd_l_is_bad ct_l_is_bad), sl_l_is_bad⟩) (c_l_is_bad : PySem.W.codeIn K cd_l_is_bad "_law_is_bad" = true) (k_l_is_bad : PySem.W.keepIn K (.ref F_l_is_bad) = true)
    {F_l_no_amount : Addr} {od_l_no_amount an_l_no_amount : Option Addr} {sl_l_no_amount : Array (Option Value)} {oc_l_no_amount kV_l_no_amount dc_l_no_amount pm_l_no_amount cd_l_no_amount ct_l_no_amount : Value} (a_l_no_amount : PySem.W.nsIn K mainGlobals "_law_no_amount" = some (some (.ref F_l_no_amount))) (l_l_no_amount : K.lookup F_l_no_amount = some ⟨oc_l_no_amount, od_l_no_amount, .func (PySem.W.fnOf "_law_no_amount" "_law_no_amount" (defArgs s_l_no_amount) (defBody s_l_no_amount) (defScope s_l_no_amount) .none kV_l_no_amount dc_l_no_amount pm_l_no_amount an_l_no_amount cd_l_no_amount ct_l_no_amount), sl_l_no_amount⟩) (c_l_no_amount : PySem.W.codeIn K cd_l_no_amount "_law_no_amount" = true) (k_l_no_amount : PySem.W.keepIn K (.ref F_l_no_amount) = true)
    {F_l_right : Addr} {od_l_right an_l_right : Option Addr} {sl_l_right : Array (Option Value)} {oc_l_right kV_l_right dc_l_right pm_l_right cd_l_right ct_l_right : Value} (a_l_right : PySem.W.nsIn K mainGlobals "_law_right" = some (some (.ref F_l_right))) (l_l_right : K.lookup F_l_right = some ⟨oc_l_right, od_l_right, .func (PySem.W.fnOf "_law_right" "_law_right" (defArgs s_l_right) (defBody s_l_right) (defScope s_l_right) .none kV_l_right dc_l_right pm_l_right an_l_right cd_l_right ct_l_right), sl_l_right⟩) (c_l_right : PySem.W.codeIn K cd_l_right "_law_right" = true) (k_l_right : PySem.W.keepIn K (.ref F_l_right) = true)
    {F_l_refused : Addr} {od_l_refused an_l_refused : Option Addr} {sl_l_refused : Array (Option Value)} {oc_l_refused kV_l_refused dc_l_refused pm_l_refused ct_l_refused : Value} (a_l_refused : PySem.W.nsIn K mainGlobals "_law_refused" = some (some (.ref F_l_refused))) (l_l_refused : K.lookup F_l_refused = some ⟨oc_l_refused, od_l_refused, .func (PySem.W.fnOf "_law_refused" "_law_refused" (defArgs s_l_refused) (defBody s_l_refused) (defScope s_l_refused) .none kV_l_refused dc_l_refused pm_l_refused an_l_refused (.ref cS) ct_l_refused), sl_l_refused⟩) (c_l_refused : PySem.W.codeIn K (.ref cS) "_law_refused" = true) (k_l_refused : PySem.W.keepIn K (.ref F_l_refused) = true)
    {F_law : Addr} {od_law an_law : Option Addr} {sl_law : Array (Option Value)} {oc_law kV_law dc_law pm_law ct_law : Value} (a_law : PySem.W.nsIn K mainGlobals "law" = some (some (.ref F_law))) (l_law : K.lookup F_law = some ⟨oc_law, od_law, .func (PySem.W.fnOf "law" "law" (defArgs s_law) (defBody s_law) (defScope s_law) .none kV_law dc_law pm_law an_law (.ref cL) ct_law), sl_law⟩) (c_law : PySem.W.codeIn K (.ref cL) "law" = true) (k_law : PySem.W.keepIn K (.ref F_law) = true)
    {cChangeError : Addr}
    {cBadRule fBadRule NnBadRule : Addr} {nmBadRule qnBadRule : Str} {bsBadRule : List Value} {snBadRule : List Str} {subBadRule : List Value} {abBadRule : Bool} {colBadRule : Option Bool} {ddBadRule : Option Addr} {m0BadRule m1BadRule m2BadRule m3BadRule m5BadRule : Option Value} {odIBadRule anIBadRule : Option Addr} {slIBadRule : Array (Option Value)} {ocIBadRule kVIBadRule dcIBadRule pmIBadRule cdIBadRule ctIBadRule : Value}
    {cNoAmount fNoAmount NnNoAmount : Addr} {nmNoAmount qnNoAmount : Str} {bsNoAmount : List Value} {snNoAmount : List Str} {subNoAmount : List Value} {abNoAmount : Bool} {colNoAmount : Option Bool} {ddNoAmount : Option Addr} {m0NoAmount m1NoAmount m2NoAmount m3NoAmount m5NoAmount : Option Value} {odINoAmount anINoAmount : Option Addr} {slINoAmount : Array (Option Value)} {ocINoAmount kVINoAmount dcINoAmount pmINoAmount cdINoAmount ctINoAmount : Value}
    {cRule : Addr}
    {fRule_init : Addr} {odRule_init anRule_init : Option Addr} {slRule_init : Array (Option Value)} {ocRule_init kVRule_init dcRule_init pmRule_init cdRule_init ctRule_init : Value}
    {fRule_eq : Addr} {odRule_eq anRule_eq : Option Addr} {slRule_eq : Array (Option Value)} {ocRule_eq kVRule_eq dcRule_eq pmRule_eq cdRule_eq ctRule_eq : Value}
    {fRule_len : Addr} {odRule_len anRule_len : Option Addr} {slRule_len : Array (Option Value)} {ocRule_len kVRule_len dcRule_len pmRule_len cdRule_len ctRule_len : Value}
    {fRule_iter : Addr} {odRule_iter anRule_iter : Option Addr} {slRule_iter : Array (Option Value)} {ocRule_iter kVRule_iter dcRule_iter pmRule_iter cdRule_iter ctRule_iter : Value}
    {fRule_str : Addr} {odRule_str anRule_str : Option Addr} {slRule_str : Array (Option Value)} {ocRule_str kVRule_str dcRule_str pmRule_str cdRule_str ctRule_str : Value}
    {fRule_call : Addr} {odRule_call anRule_call : Option Addr} {slRule_call : Array (Option Value)} {ocRule_call kVRule_call dcRule_call pmRule_call cdRule_call ctRule_call : Value}
    {pRule_of fRule_of : Addr} {rsRule_of : List Value} {odRule_of anRule_of : Option Addr} {slRule_of : Array (Option Value)} {ocRule_of kVRule_of dcRule_of pmRule_of cdRule_of ctRule_of : Value}
    {PS : Addr} {ddS : Option Addr} {slS : Array (Option Value)} {vsS : Array Value} {eS : Value}
    {PL : Addr} {ddL : Option Addr} {slL : Array (Option Value)} {vsL : Array Value} {eL : Value}
    (a_ChangeError : PySem.W.nsIn K mainGlobals "ChangeError" = some (some (.ref cChangeError)))
    (e_ChangeError : PySem.W.subIn K (.ref cChangeError) (.type "BaseException") = some true)
    (h_ChangeError : PySem.W.hasDictIn K cChangeError = true)
    (t_ChangeError : PySem.W.typeIn K (.ref cChangeError) = some (.type "type"))
    (i_ChangeError : PySem.W.isClsIn K cChangeError = true)
    (g_cl : PySem.W.specialIn K (.builtin "object.__class__") "__get__" = some (some (.builtin "getset_descriptor.__get__")))
    (t_cl : PySem.W.takesIn K (.builtin "object.__class__") = some true)
    (a_BadRule : PySem.W.nsIn K mainGlobals "BadRule" = some (some (.ref cBadRule)))
    (x_BadRule : K.lookup cBadRule = some (excClassObj nmBadRule qnBadRule cBadRule NnBadRule bsBadRule [.ref cChangeError, .type "ValueError", .type "Exception", .type "BaseException", .type "object"] true snBadRule subBadRule abBadRule colBadRule ddBadRule m0BadRule m1BadRule m2BadRule m3BadRule m5BadRule "ValueError.__new__"))
    (fsa_BadRule : PySem.W.findIn K (.ref cBadRule) "__setattr__" = some (some (.builtin "object.__setattr__")))
    (fga_BadRule : PySem.W.findIn K (.ref cBadRule) "__getattribute__" = some (some (.builtin "BaseException.__getattribute__")))
    (fgg_BadRule : PySem.W.findIn K (.ref cBadRule) "__getattr__" = some none)
    (fno_BadRule : PySem.W.findIn K (.ref cBadRule) "error" = some none)
    (fiC_BadRule : PySem.W.findIn K (.ref cBadRule) "__init__" = some (some (.ref fBadRule)))
    (fcl_BadRule : PySem.W.findIn K (.ref cBadRule) "__class__" = some (some (.builtin "object.__class__")))
    (tf_BadRule : PySem.W.typeIn K (.ref fBadRule) = some (.type "function"))
    (t_BadRule : PySem.W.typeIn K (.ref cBadRule) = some (.type "type"))
    (k_BadRule : PySem.W.keepIn K (.ref cBadRule) = true)
    (e_BadRule : PySem.W.subIn K (.ref cBadRule) (.type "BaseException") = some true)
    (s_BadRule : PySem.W.subIn K (.ref cBadRule) (.ref cBadRule) = some true)
    (h_BadRule : PySem.W.hasDictIn K cBadRule = true)
    (m_BadRule : PySem.W.mroIn K cBadRule (.type "object") = some true)
    (lf_BadRule : K.lookup fBadRule = some ⟨ocIBadRule, odIBadRule, .func (PySem.W.fnOf "__init__" "BadRule.__init__" (defArgs s_BadRule_init) (defBody s_BadRule_init) (defScope s_BadRule_init) .none kVIBadRule dcIBadRule pmIBadRule anIBadRule cdIBadRule ctIBadRule), slIBadRule⟩)
    (cf_BadRule : PySem.W.codeIn K cdIBadRule "BadRule.__init__" = true)
    (kf_BadRule : PySem.W.keepIn K (.ref fBadRule) = true)
    (a_NoAmount : PySem.W.nsIn K mainGlobals "NoAmount" = some (some (.ref cNoAmount)))
    (x_NoAmount : K.lookup cNoAmount = some (excClassObj nmNoAmount qnNoAmount cNoAmount NnNoAmount bsNoAmount [.ref cChangeError, .type "ValueError", .type "Exception", .type "BaseException", .type "object"] true snNoAmount subNoAmount abNoAmount colNoAmount ddNoAmount m0NoAmount m1NoAmount m2NoAmount m3NoAmount m5NoAmount "ValueError.__new__"))
    (fsa_NoAmount : PySem.W.findIn K (.ref cNoAmount) "__setattr__" = some (some (.builtin "object.__setattr__")))
    (fga_NoAmount : PySem.W.findIn K (.ref cNoAmount) "__getattribute__" = some (some (.builtin "BaseException.__getattribute__")))
    (fgg_NoAmount : PySem.W.findIn K (.ref cNoAmount) "__getattr__" = some none)
    (fno_NoAmount : PySem.W.findIn K (.ref cNoAmount) "value" = some none)
    (fiC_NoAmount : PySem.W.findIn K (.ref cNoAmount) "__init__" = some (some (.ref fNoAmount)))
    (fcl_NoAmount : PySem.W.findIn K (.ref cNoAmount) "__class__" = some (some (.builtin "object.__class__")))
    (tf_NoAmount : PySem.W.typeIn K (.ref fNoAmount) = some (.type "function"))
    (t_NoAmount : PySem.W.typeIn K (.ref cNoAmount) = some (.type "type"))
    (k_NoAmount : PySem.W.keepIn K (.ref cNoAmount) = true)
    (e_NoAmount : PySem.W.subIn K (.ref cNoAmount) (.type "BaseException") = some true)
    (s_NoAmount : PySem.W.subIn K (.ref cNoAmount) (.ref cNoAmount) = some true)
    (h_NoAmount : PySem.W.hasDictIn K cNoAmount = true)
    (m_NoAmount : PySem.W.mroIn K cNoAmount (.type "object") = some true)
    (lf_NoAmount : K.lookup fNoAmount = some ⟨ocINoAmount, odINoAmount, .func (PySem.W.fnOf "__init__" "NoAmount.__init__" (defArgs s_NoAmount_init) (defBody s_NoAmount_init) (defScope s_NoAmount_init) .none kVINoAmount dcINoAmount pmINoAmount anINoAmount cdINoAmount ctINoAmount), slINoAmount⟩)
    (cf_NoAmount : PySem.W.codeIn K cdINoAmount "NoAmount.__init__" = true)
    (kf_NoAmount : PySem.W.keepIn K (.ref fNoAmount) = true)
    (isub_BadRule_ChangeError : PySem.W.subIn K (.ref cBadRule) (.ref cChangeError) = some true)
    (isub_NoAmount_ChangeError : PySem.W.subIn K (.ref cNoAmount) (.ref cChangeError) = some true)
    (a_Rule : PySem.W.nsIn K mainGlobals "Rule" = some (some (.ref cRule)))
    (pg_Rule : PySem.W.plainGet K cRule Str.empty = true)
    (hd_Rule : PySem.W.hasDictIn K cRule = true)
    (po_Rule : PySem.W.plainOver K cRule = true)
    (sa_Rule : PySem.W.findIn K (.ref cRule) "__setattr__" = some (some (.builtin "object.__setattr__")))
    (mk_Rule : PySem.W.makesIn K cRule = true)
    (kp_Rule : PySem.W.keepIn K (.ref cRule) = true)
    (ha_Rule : PySem.W.findIn K (.ref cRule) "__class__" = some (some (.builtin "object.__class__")))
    (hm_Rule : PySem.W.mroIn K cRule (.type "object") = some true)
    (na_Rule_value : PySem.W.findIn K (.ref cRule) "value" = some none)
    (na_Rule_table : PySem.W.findIn K (.ref cRule) "table" = some none)
    (na_Rule_period : PySem.W.findIn K (.ref cRule) "period" = some none)
    (na_Rule_rise : PySem.W.findIn K (.ref cRule) "rise" = some none)
    (at_Rule_init : PySem.W.findIn K (.ref cRule) "__init__" = some (some (.ref fRule_init)))
    (fn_Rule_init : PySem.W.isFn K (.ref fRule_init) = true)
    (kf_Rule_init : PySem.W.keepIn K (.ref fRule_init) = true)
    (lf_Rule_init : K.lookup fRule_init = some ⟨ocRule_init, odRule_init, .func (PySem.W.fnOf "__init__" "Rule.__init__" (defArgs s_Rule_init) (defBody s_Rule_init) (defScope s_Rule_init) .none kVRule_init dcRule_init pmRule_init anRule_init cdRule_init ctRule_init), slRule_init⟩)
    (cf_Rule_init : PySem.W.codeIn K cdRule_init "Rule.__init__" = true)
    (at_Rule_eq : PySem.W.findIn K (.ref cRule) "__eq__" = some (some (.ref fRule_eq)))
    (fn_Rule_eq : PySem.W.isFn K (.ref fRule_eq) = true)
    (kf_Rule_eq : PySem.W.keepIn K (.ref fRule_eq) = true)
    (lf_Rule_eq : K.lookup fRule_eq = some ⟨ocRule_eq, odRule_eq, .func (PySem.W.fnOf "__eq__" "Rule.__eq__" (defArgs s_Rule_eq) (defBody s_Rule_eq) (defScope s_Rule_eq) .none kVRule_eq dcRule_eq pmRule_eq anRule_eq cdRule_eq ctRule_eq), slRule_eq⟩)
    (cf_Rule_eq : PySem.W.codeIn K cdRule_eq "Rule.__eq__" = true)
    (at_Rule_len : PySem.W.findIn K (.ref cRule) "__len__" = some (some (.ref fRule_len)))
    (fn_Rule_len : PySem.W.isFn K (.ref fRule_len) = true)
    (kf_Rule_len : PySem.W.keepIn K (.ref fRule_len) = true)
    (lf_Rule_len : K.lookup fRule_len = some ⟨ocRule_len, odRule_len, .func (PySem.W.fnOf "__len__" "Rule.__len__" (defArgs s_Rule_len) (defBody s_Rule_len) (defScope s_Rule_len) .none kVRule_len dcRule_len pmRule_len anRule_len cdRule_len ctRule_len), slRule_len⟩)
    (cf_Rule_len : PySem.W.codeIn K cdRule_len "Rule.__len__" = true)
    (at_Rule_iter : PySem.W.findIn K (.ref cRule) "__iter__" = some (some (.ref fRule_iter)))
    (fn_Rule_iter : PySem.W.isFn K (.ref fRule_iter) = true)
    (kf_Rule_iter : PySem.W.keepIn K (.ref fRule_iter) = true)
    (lf_Rule_iter : K.lookup fRule_iter = some ⟨ocRule_iter, odRule_iter, .func (PySem.W.fnOf "__iter__" "Rule.__iter__" (defArgs s_Rule_iter) (defBody s_Rule_iter) (defScope s_Rule_iter) .none kVRule_iter dcRule_iter pmRule_iter anRule_iter cdRule_iter ctRule_iter), slRule_iter⟩)
    (cf_Rule_iter : PySem.W.codeIn K cdRule_iter "Rule.__iter__" = true)
    (at_Rule_str : PySem.W.findIn K (.ref cRule) "__str__" = some (some (.ref fRule_str)))
    (fn_Rule_str : PySem.W.isFn K (.ref fRule_str) = true)
    (kf_Rule_str : PySem.W.keepIn K (.ref fRule_str) = true)
    (lf_Rule_str : K.lookup fRule_str = some ⟨ocRule_str, odRule_str, .func (PySem.W.fnOf "__str__" "Rule.__str__" (defArgs s_Rule_str) (defBody s_Rule_str) (defScope s_Rule_str) .none kVRule_str dcRule_str pmRule_str anRule_str cdRule_str ctRule_str), slRule_str⟩)
    (cf_Rule_str : PySem.W.codeIn K cdRule_str "Rule.__str__" = true)
    (at_Rule_call : PySem.W.findIn K (.ref cRule) "__call__" = some (some (.ref fRule_call)))
    (fn_Rule_call : PySem.W.isFn K (.ref fRule_call) = true)
    (kf_Rule_call : PySem.W.keepIn K (.ref fRule_call) = true)
    (lf_Rule_call : K.lookup fRule_call = some ⟨ocRule_call, odRule_call, .func (PySem.W.fnOf "__call__" "Rule.__call__" (defArgs s_Rule_call) (defBody s_Rule_call) (defScope s_Rule_call) .none kVRule_call dcRule_call pmRule_call anRule_call cdRule_call ctRule_call), slRule_call⟩)
    (cf_Rule_call : PySem.W.codeIn K cdRule_call "Rule.__call__" = true)
    (rd_Rule : PySem.W.readsIn K cRule (.type "type") = true)
    (ga_Rule : PySem.W.specialIn K (.ref cRule) "__getattribute__" = some (some (.builtin "type.__getattribute__")))
    (cm_Rule_of : PySem.W.findCls K (.ref cRule) (.type "type") "of" = some (.get (.builtin "classmethod.__get__") (.ref pRule_of) .none (.ref cRule)))
    (rc_Rule_of : PySem.W.recIn K pRule_of "classmethod" = some (.ref fRule_of :: rsRule_of))
    (fi_Rule_of : PySem.W.fnIn K fRule_of = true)
    (kf_Rule_of : PySem.W.keepIn K (.ref fRule_of) = true)
    (lf_Rule_of : K.lookup fRule_of = some ⟨ocRule_of, odRule_of, .func (PySem.W.fnOf "of" "Rule.of" (defArgs s_Rule_of) (defBody s_Rule_of) (defScope s_Rule_of) .none kVRule_of dcRule_of pmRule_of anRule_of cdRule_of ctRule_of), slRule_of⟩)
    (cf_Rule_of : PySem.W.codeIn K cdRule_of "Rule.of" = true)
    (fi_Rule_call : PySem.W.fnIn K fRule_call = true)
    (tsub_Rule_tuple : PySem.W.subIn K (.ref cRule) (.type "tuple") = some false)
    (bsub_tuple_Rule : PySem.W.subIn K (.type "tuple") (.ref cRule) = some false)
    (is_Rule : PySem.W.isClsIn K cRule = true)
    (ty_Rule : PySem.W.typeIn K (.ref cRule) = some (.type "type"))
    (ne_Rule : PySem.W.findIn K (.ref cRule) "__ne__" = some (some (.builtin "object.__ne__")))
    (l_cS : K.lookup cS = some ⟨eS, ddS, .fields vsS, slS⟩)
    (e_PS : vsS[11]? = some (.ref PS))
    (d_PS : PySem.W.codeHdIn K cS PS = true)
    (n_PS : K.lookup PS = none)
    (r_S : ((recsOf q).any fun e => e.name == "_law_refused") = true)
    (l_cL : K.lookup cL = some ⟨eL, ddL, .fields vsL, slL⟩)
    (e_PL : vsL[11]? = some (.ref PL))
    (d_PL : PySem.W.codeHdIn K cL PL = true)
    (n_PL : K.lookup PL = none)
    (r_L : ((recsOf q).any fun e => e.name == "law") = true)
    (nP_S_L : PS ≠ PL)
    (z__law_call : PySem.W.nsIn K mainGlobals "_law_call" = some none)
    (z_abs : PySem.W.nsIn K mainGlobals "abs" = some none)
    (z_all : PySem.W.nsIn K mainGlobals "all" = some none)
    (z_any : PySem.W.nsIn K mainGlobals "any" = some none)
    (z_bool : PySem.W.nsIn K mainGlobals "bool" = some none)
    (z_int : PySem.W.nsIn K mainGlobals "int" = some none)
    (z_isinstance : PySem.W.nsIn K mainGlobals "isinstance" = some none)
    (z_iter : PySem.W.nsIn K mainGlobals "iter" = some none)
    (z_len : PySem.W.nsIn K mainGlobals "len" = some none)
    (z_list : PySem.W.nsIn K mainGlobals "list" = some none)
    (z_max : PySem.W.nsIn K mainGlobals "max" = some none)
    (z_min : PySem.W.nsIn K mainGlobals "min" = some none)
    (z_range : PySem.W.nsIn K mainGlobals "range" = some none)
    (z_repr : PySem.W.nsIn K mainGlobals "repr" = some none)
    (z_str : PySem.W.nsIn K mainGlobals "str" = some none)
    (z_tuple : PySem.W.nsIn K mainGlobals "tuple" = some none)
    (g_gcd : PySem.W.nsIn K mainGlobals "gcd" = some (some (.builtin "math.gcd")))
    (g_lcm : PySem.W.nsIn K mainGlobals "lcm" = some (some (.builtin "math.lcm")))
    {t_MAX_TOLD : Tok} (g_MAX_TOLD : PySem.W.nsIn K mainGlobals "MAX_TOLD" = some (some (.int 5000 t_MAX_TOLD))) :
    ∃ (fd : FuncData) (ct : List (Addr × Addr)) (TT : List (Addr × Str)), (∀ t ∈ ct, h.get? t.2 = some (PySem.W.tabObj #[])) ∧ (∀ t ∈ ct, K.lookup t.2 = none) ∧ (∀ t ∈ ct, PySem.W.codeHdIn K t.1 t.2 = true) ∧ TT.map (·.1) = ct.map (·.2) ∧ (∀ (s : Shared) (v : Value), BindsTo s fd ⟨[v], []⟩ [("_law_script", v)]) ∧ ∀ base : Heap, K.In base → base.Ns mainGlobals mg → (∀ t ∈ ct, TabB base mg t.1 t.2) → FnG l.prog w K mg base 12 fa fd ["_law_script"] (sp_law K TT) := by
  have e := hfa.symm.trans (PySem.W.mg_of X G a_law)
  cases e
  have T : Txt mg := ⟨PySem.W.mg_none_of X G z__law_call, PySem.W.mg_none_of X G z_abs, PySem.W.mg_none_of X G z_all, PySem.W.mg_none_of X G z_any, PySem.W.mg_none_of X G z_bool, PySem.W.mg_none_of X G z_int, PySem.W.mg_none_of X G z_isinstance, PySem.W.mg_none_of X G z_iter, PySem.W.mg_none_of X G z_len, PySem.W.mg_none_of X G z_list, PySem.W.mg_none_of X G z_max, PySem.W.mg_none_of X G z_min, PySem.W.mg_none_of X G z_range, PySem.W.mg_none_of X G z_repr, PySem.W.mg_none_of X G z_str, PySem.W.mg_none_of X G z_tuple, PySem.W.mg_of X G g_gcd, PySem.W.mg_of X G g_lcm, ⟨_, PySem.W.mg_of X G g_MAX_TOLD⟩⟩
  have XBadRule : XVal K mg "BadRule" "error" cBadRule fBadRule :=
    { g := PySem.W.mg_of X G a_BadRule, oex := ⟨⟨nmBadRule, qnBadRule, NnBadRule, bsBadRule, _, snBadRule, subBadRule, abBadRule, colBadRule, ddBadRule, m0BadRule, m1BadRule, m2BadRule, m3BadRule, m5BadRule, x_BadRule, by rfl⟩, fsa_BadRule, e_BadRule, t_BadRule, k_BadRule⟩, no := fno_BadRule, iC := fiC_BadRule, tI := tf_BadRule, xf := ⟨fga_BadRule, fgg_BadRule, e_BadRule, h_BadRule⟩,
      ec := ⟨fga_BadRule, fgg_BadRule, e_BadRule, h_BadRule, fcl_BadRule, g_cl, t_cl, m_BadRule⟩, te := PySem.W.exm_ref e_BadRule h_BadRule t_BadRule s_BadRule }
  have iBadRule : IniF K "BadRule.__init__" "error" s_BadRule_init fBadRule := ⟨_, fun_mk (st := s_BadRule_init) lf_BadRule cf_BadRule kf_BadRule, (fun_mk (st := s_BadRule_init) lf_BadRule cf_BadRule kf_BadRule).binds (ps := ["self", "error"]) fun _ _ _ _ _ _ us hl => match us, hl with | [_, _], _ => rfl⟩
  have XNoAmount : XVal K mg "NoAmount" "value" cNoAmount fNoAmount :=
    { g := PySem.W.mg_of X G a_NoAmount, oex := ⟨⟨nmNoAmount, qnNoAmount, NnNoAmount, bsNoAmount, _, snNoAmount, subNoAmount, abNoAmount, colNoAmount, ddNoAmount, m0NoAmount, m1NoAmount, m2NoAmount, m3NoAmount, m5NoAmount, x_NoAmount, by rfl⟩, fsa_NoAmount, e_NoAmount, t_NoAmount, k_NoAmount⟩, no := fno_NoAmount, iC := fiC_NoAmount, tI := tf_NoAmount, xf := ⟨fga_NoAmount, fgg_NoAmount, e_NoAmount, h_NoAmount⟩,
      ec := ⟨fga_NoAmount, fgg_NoAmount, e_NoAmount, h_NoAmount, fcl_NoAmount, g_cl, t_cl, m_NoAmount⟩, te := PySem.W.exm_ref e_NoAmount h_NoAmount t_NoAmount s_NoAmount }
  have iNoAmount : IniF K "NoAmount.__init__" "value" s_NoAmount_init fNoAmount := ⟨_, fun_mk (st := s_NoAmount_init) lf_NoAmount cf_NoAmount kf_NoAmount, (fun_mk (st := s_NoAmount_init) lf_NoAmount cf_NoAmount kf_NoAmount).binds (ps := ["self", "value"]) fun _ _ _ _ _ _ us hl => match us, hl with | [_, _], _ => rfl⟩
  have k_BadRule_ChangeError : PySem.W.kitOne K (.ref cBadRule) (.ref cChangeError) = some true := kit_own i_ChangeError t_ChangeError isub_BadRule_ChangeError s_BadRule
  have k_NoAmount_ChangeError : PySem.W.kitOne K (.ref cNoAmount) (.ref cChangeError) = some true := kit_own i_ChangeError t_ChangeError isub_NoAmount_ChangeError s_NoAmount
  have IRule : InsC K cRule := ⟨⟨pg_Rule, hd_Rule, po_Rule, sa_Rule⟩, ha_Rule, g_cl, t_cl, hm_Rule⟩
  have fun_Rule_init := fun_mk (st := s_Rule_init) lf_Rule_init cf_Rule_init kf_Rule_init
  have bin_Rule_init := fun_Rule_init.binds (ps := ["self", "value"]) fun _ _ _ _ _ _ us hl => match us, hl with | [_, _], _ => rfl
  have mak_Rule : Mk K cRule fRule_init := ⟨mk_Rule, at_Rule_init, fn_Rule_init, kp_Rule⟩
  have fun_Rule_eq := fun_mk (st := s_Rule_eq) lf_Rule_eq cf_Rule_eq kf_Rule_eq
  have bin_Rule_eq := fun_Rule_eq.binds (ps := ["self", "other"]) fun _ _ _ _ _ _ us hl => match us, hl with | [_, _], _ => rfl
  have met_Rule_eq : Meth K cRule "__eq__" fRule_eq := ⟨at_Rule_eq, fn_Rule_eq, kf_Rule_eq⟩
  have fun_Rule_len := fun_mk (st := s_Rule_len) lf_Rule_len cf_Rule_len kf_Rule_len
  have bin_Rule_len := fun_Rule_len.binds (ps := ["self"]) fun _ _ _ _ _ _ us hl => match us, hl with | [_], _ => rfl
  have met_Rule_len : Meth K cRule "__len__" fRule_len := ⟨at_Rule_len, fn_Rule_len, kf_Rule_len⟩
  have fun_Rule_iter := fun_mk (st := s_Rule_iter) lf_Rule_iter cf_Rule_iter kf_Rule_iter
  have bin_Rule_iter := fun_Rule_iter.binds (ps := ["self"]) fun _ _ _ _ _ _ us hl => match us, hl with | [_], _ => rfl
  have met_Rule_iter : Meth K cRule "__iter__" fRule_iter := ⟨at_Rule_iter, fn_Rule_iter, kf_Rule_iter⟩
  have fun_Rule_str := fun_mk (st := s_Rule_str) lf_Rule_str cf_Rule_str kf_Rule_str
  have bin_Rule_str := fun_Rule_str.binds (ps := ["self"]) fun _ _ _ _ _ _ us hl => match us, hl with | [_], _ => rfl
  have met_Rule_str : Meth K cRule "__str__" fRule_str := ⟨at_Rule_str, fn_Rule_str, kf_Rule_str⟩
  have fun_Rule_call := fun_mk (st := s_Rule_call) lf_Rule_call cf_Rule_call kf_Rule_call
  have bin_Rule_call := fun_Rule_call.binds (ps := ["self", "x"]) fun _ _ _ _ _ _ us hl => match us, hl with | [_, _], _ => rfl
  have met_Rule_call : Meth K cRule "__call__" fRule_call := ⟨at_Rule_call, fn_Rule_call, kf_Rule_call⟩
  have fun_Rule_of := fun_mk (st := s_Rule_of) lf_Rule_of cf_Rule_of kf_Rule_of
  have bin_Rule_of := fun_Rule_of.binds (ps := ["cls", "table", "period", "rise"]) fun _ _ _ _ _ _ us hl => match us, hl with | [_, _, _, _], _ => rfl
  have cme_Rule_of : ClX.CMet K cRule (.type "type") "of" pRule_of fRule_of := ⟨cm_Rule_of, ⟨_, rc_Rule_of⟩, fi_Rule_of⟩
  have crd_Rule : ClX.CRead K cRule (.type "type") := ⟨rd_Rule, ga_Rule⟩
  have OS : h.get? PS = some (PySem.W.tabObj #[]) := own _ _ r_S (PySem.W.mg_of X G a_l_refused) _ _ _ _ _ _ _ _ l_l_refused rfl rfl l_cS e_PS
  have OL : h.get? PL = some (PySem.W.tabObj #[]) := own _ _ r_L (PySem.W.mg_of X G a_law) _ _ _ _ _ _ _ _ l_law rfl rfl l_cL e_PL
  have k_Rule_tuple : PySem.W.kitOne K (.ref cRule) (.type "tuple") = some false := kit_typ (by decide +kernel) tsub_Rule_tuple
  have R : TxR K mg cRule fRule_init fRule_eq fRule_len fRule_iter fRule_str fRule_call fRule_of pRule_of := ⟨PySem.W.mg_of X G a_Rule, IRule, mak_Rule, na_Rule_value, na_Rule_table, na_Rule_period, na_Rule_rise, if_pos (beq_self_eq_true _), ⟨at_Rule_eq, fn_Rule_eq⟩, ⟨at_Rule_len, fn_Rule_len⟩, ⟨at_Rule_iter, fn_Rule_iter⟩, ⟨at_Rule_str, fn_Rule_str⟩, ⟨at_Rule_call, fn_Rule_call⟩, fi_Rule_call, crd_Rule, cme_Rule_of, k_Rule_tuple, kit_bi is_Rule ty_Rule bsub_tuple_Rule, bsub_tuple_Rule, ne_Rule, hm_Rule⟩
  have D_is_whole : Df K mg "is_whole" s_is_whole ["value"] := ⟨_, _, fun_mk (st := s_is_whole) l_is_whole c_is_whole k_is_whole, PySem.W.mg_of X G a_is_whole, (fun_mk (st := s_is_whole) l_is_whole c_is_whole k_is_whole).binds (ps := ["value"]) fun _ _ _ _ _ _ us hl => match us, hl with | [_], _ => rfl⟩
  have D_is_amount : Df K mg "is_amount" s_is_amount ["value"] := ⟨_, _, fun_mk (st := s_is_amount) l_is_amount c_is_amount k_is_amount, PySem.W.mg_of X G a_is_amount, (fun_mk (st := s_is_amount) l_is_amount c_is_amount k_is_amount).binds (ps := ["value"]) fun _ _ _ _ _ _ us hl => match us, hl with | [_], _ => rfl⟩
  have D_rule_error : Df K mg "rule_error" s_rule_error ["value"] := ⟨_, _, fun_mk (st := s_rule_error) l_rule_error c_rule_error k_rule_error, PySem.W.mg_of X G a_rule_error, (fun_mk (st := s_rule_error) l_rule_error c_rule_error k_rule_error).binds (ps := ["value"]) fun _ _ _ _ _ _ us hl => match us, hl with | [_], _ => rfl⟩
  have D_told_error : Df K mg "told_error" s_told_error ["table", "period", "rise"] := ⟨_, _, fun_mk (st := s_told_error) l_told_error c_told_error k_told_error, PySem.W.mg_of X G a_told_error, (fun_mk (st := s_told_error) l_told_error c_told_error k_told_error).binds (ps := ["table", "period", "rise"]) fun _ _ _ _ _ _ us hl => match us, hl with | [_, _, _], _ => rfl⟩
  have D_canonical : Df K mg "canonical" s_canonical ["table", "period", "rise"] := ⟨_, _, fun_mk (st := s_canonical) l_canonical c_canonical k_canonical, PySem.W.mg_of X G a_canonical, (fun_mk (st := s_canonical) l_canonical c_canonical k_canonical).binds (ps := ["table", "period", "rise"]) fun _ _ _ _ _ _ us hl => match us, hl with | [_, _, _], _ => rfl⟩
  have D_shortest : Df K mg "shortest" s_shortest ["table", "period", "rise"] := ⟨_, _, fun_mk (st := s_shortest) l_shortest c_shortest k_shortest, PySem.W.mg_of X G a_shortest, (fun_mk (st := s_shortest) l_shortest c_shortest k_shortest).binds (ps := ["table", "period", "rise"]) fun _ _ _ _ _ _ us hl => match us, hl with | [_, _, _], _ => rfl⟩
  have D_cycle_of : Df K mg "cycle_of" s_cycle_of ["items"] := ⟨_, _, fun_mk (st := s_cycle_of) l_cycle_of c_cycle_of k_cycle_of, PySem.W.mg_of X G a_cycle_of, (fun_mk (st := s_cycle_of) l_cycle_of c_cycle_of k_cycle_of).binds (ps := ["items"]) fun _ _ _ _ _ _ us hl => match us, hl with | [_], _ => rfl⟩
  have D_value_of : Df K mg "value_of" s_value_of ["rule", "x"] := ⟨_, _, fun_mk (st := s_value_of) l_value_of c_value_of k_value_of, PySem.W.mg_of X G a_value_of, (fun_mk (st := s_value_of) l_value_of c_value_of k_value_of).binds (ps := ["rule", "x"]) fun _ _ _ _ _ _ us hl => match us, hl with | [_, _], _ => rfl⟩
  have D_spaced : Df K mg "spaced" s_spaced ["items"] := ⟨_, _, fun_mk (st := s_spaced) l_spaced c_spaced k_spaced, PySem.W.mg_of X G a_spaced, (fun_mk (st := s_spaced) l_spaced c_spaced k_spaced).binds (ps := ["items"]) fun _ _ _ _ _ _ us hl => match us, hl with | [_], _ => rfl⟩
  have D_l_deck : Df K mg "_law_deck" s_l_deck ["_law_script"] := ⟨_, _, fun_mk (st := s_l_deck) l_l_deck c_l_deck k_l_deck, PySem.W.mg_of X G a_l_deck, (fun_mk (st := s_l_deck) l_l_deck c_l_deck k_l_deck).binds (ps := ["_law_script"]) fun _ _ _ _ _ _ us hl => match us, hl with | [_], _ => rfl⟩
  have D_l_draw : Df K mg "_law_draw" s_l_draw ["_law_deck_here", "_law_many"] := ⟨_, _, fun_mk (st := s_l_draw) l_l_draw c_l_draw k_l_draw, PySem.W.mg_of X G a_l_draw, (fun_mk (st := s_l_draw) l_l_draw c_l_draw k_l_draw).binds (ps := ["_law_deck_here", "_law_many"]) fun _ _ _ _ _ _ us hl => match us, hl with | [_, _], _ => rfl⟩
  have D_l_one : Df K mg "_law_one" s_l_one ["_law_deck_here", "_law_items"] := ⟨_, _, fun_mk (st := s_l_one) l_l_one c_l_one k_l_one, PySem.W.mg_of X G a_l_one, (fun_mk (st := s_l_one) l_l_one c_l_one k_l_one).binds (ps := ["_law_deck_here", "_law_items"]) fun _ _ _ _ _ _ us hl => match us, hl with | [_, _], _ => rfl⟩
  have D_l_drawn : Df K mg "_law_drawn" s_l_drawn ["_law_deck_here", "_law_upto"] := ⟨_, _, fun_mk (st := s_l_drawn) l_l_drawn c_l_drawn k_l_drawn, PySem.W.mg_of X G a_l_drawn, (fun_mk (st := s_l_drawn) l_l_drawn c_l_drawn k_l_drawn).binds (ps := ["_law_deck_here", "_law_upto"]) fun _ _ _ _ _ _ us hl => match us, hl with | [_, _], _ => rfl⟩
  have D_l_value : Df K mg "_law_value" s_l_value ["_law_rule", "_law_x"] := ⟨_, _, fun_mk (st := s_l_value) l_l_value c_l_value k_l_value, PySem.W.mg_of X G a_l_value, (fun_mk (st := s_l_value) l_l_value c_l_value k_l_value).binds (ps := ["_law_rule", "_law_x"]) fun _ _ _ _ _ _ us hl => match us, hl with | [_, _], _ => rfl⟩
  have D_l_fits : Df K mg "_law_fits" s_l_fits ["_law_rule", "_law_few", "_law_period"] := ⟨_, _, fun_mk (st := s_l_fits) l_l_fits c_l_fits k_l_fits, PySem.W.mg_of X G a_l_fits, (fun_mk (st := s_l_fits) l_l_fits c_l_fits k_l_fits).binds (ps := ["_law_rule", "_law_few", "_law_period"]) fun _ _ _ _ _ _ us hl => match us, hl with | [_, _, _], _ => rfl⟩
  have D_l_short : Df K mg "_law_short" s_l_short ["_law_rule"] := ⟨_, _, fun_mk (st := s_l_short) l_l_short c_l_short k_l_short, PySem.W.mg_of X G a_l_short, (fun_mk (st := s_l_short) l_l_short c_l_short k_l_short).binds (ps := ["_law_rule"]) fun _ _ _ _ _ _ us hl => match us, hl with | [_], _ => rfl⟩
  have D_l_odd : Df K mg "_law_odd" s_l_odd ["_law_deck_here"] := ⟨_, _, fun_mk (st := s_l_odd) l_l_odd c_l_odd k_l_odd, PySem.W.mg_of X G a_l_odd, (fun_mk (st := s_l_odd) l_l_odd c_l_odd k_l_odd).binds (ps := ["_law_deck_here"]) fun _ _ _ _ _ _ us hl => match us, hl with | [_], _ => rfl⟩
  have D_l_word : Df K mg "_law_word" s_l_word ["_law_rule"] := ⟨_, _, fun_mk (st := s_l_word) l_l_word c_l_word k_l_word, PySem.W.mg_of X G a_l_word, (fun_mk (st := s_l_word) l_l_word c_l_word k_l_word).binds (ps := ["_law_rule"]) fun _ _ _ _ _ _ us hl => match us, hl with | [_], _ => rfl⟩
  have D_l_is_bad : Df K mg "_law_is_bad" s_l_is_bad ["_law_call", "_law_word_here"] := ⟨_, _, fun_mk (st := s_l_is_bad) l_l_is_bad c_l_is_bad k_l_is_bad, PySem.W.mg_of X G a_l_is_bad, (fun_mk (st := s_l_is_bad) l_l_is_bad c_l_is_bad k_l_is_bad).binds (ps := ["_law_call", "_law_word_here"]) fun _ _ _ _ _ _ us hl => match us, hl with | [_, _], _ => rfl⟩
  have D_l_no_amount : Df K mg "_law_no_amount" s_l_no_amount ["_law_one_here", "_law_value_here"] := ⟨_, _, fun_mk (st := s_l_no_amount) l_l_no_amount c_l_no_amount k_l_no_amount, PySem.W.mg_of X G a_l_no_amount, (fun_mk (st := s_l_no_amount) l_l_no_amount c_l_no_amount k_l_no_amount).binds (ps := ["_law_one_here", "_law_value_here"]) fun _ _ _ _ _ _ us hl => match us, hl with | [_, _], _ => rfl⟩
  have D_l_right : Df K mg "_law_right" s_l_right ["_law_deck_here", "_law_one_here", "_law_rule"] := ⟨_, _, fun_mk (st := s_l_right) l_l_right c_l_right k_l_right, PySem.W.mg_of X G a_l_right, (fun_mk (st := s_l_right) l_l_right c_l_right k_l_right).binds (ps := ["_law_deck_here", "_law_one_here", "_law_rule"]) fun _ _ _ _ _ _ us hl => match us, hl with | [_, _, _], _ => rfl⟩
  have D_l_refused : Df K mg "_law_refused" s_l_refused ["_law_deck_here", "_law_rule"] := ⟨_, _, fun_mk (st := s_l_refused) l_l_refused c_l_refused k_l_refused, PySem.W.mg_of X G a_l_refused, (fun_mk (st := s_l_refused) l_l_refused c_l_refused k_l_refused).binds (ps := ["_law_deck_here", "_law_rule"]) fun _ _ _ _ _ _ us hl => match us, hl with | [_, _], _ => rfl⟩
  have D_law : Df K mg "law" s_law ["_law_script"] := ⟨_, _, fun_mk (st := s_law) l_law c_law k_law, PySem.W.mg_of X G a_law, (fun_mk (st := s_law) l_law c_law k_law).binds (ps := ["_law_script"]) fun _ _ _ _ _ _ us hl => match us, hl with | [_], _ => rfl⟩
  refine ⟨PySem.W.fnOf "law" "law" (defArgs s_law) (defBody s_law) (defScope s_law) .none kV_law dc_law pm_law an_law (.ref cL) ct_law, [(cS, PS), (cL, PL)], [(PS, q_l_refused), (PL, q_law)], inT2 OS OL, inT2 n_PS n_PL, inT2 d_PS d_PL, rfl, fun s v => .of_eq rfl, fun base _ _ TB => ?_⟩
  have TBS : TabB base mg cS PS := TB _ (List.mem_cons_self ..)
  have TBL : TabB base mg cL PL := TB _ (List.mem_cons_of_mem _ (List.mem_cons_self ..))
  obtain ⟨TT, hTT⟩ : ∃ TT : List (Addr × Str), TT = [(PS, q_l_refused), (PL, q_law)] := ⟨_, rfl⟩
  rw [← hTT]
  have hmS : (PS, q_l_refused) ∈ TT := by rw [hTT]; exact List.mem_cons_self ..
  have huS : ∀ p ∈ TT, p.1 = PS → p.2 = q_l_refused := by rw [hTT]; exact inT2 (fun _ => rfl) (fun e => (nP_S_L e.symm).elim)
  have hmL : (PL, q_law) ∈ TT := by rw [hTT]; exact List.mem_cons_of_mem _ (List.mem_cons_self ..)
  have huL : ∀ p ∈ TT, p.1 = PL → p.2 = q_law := by rw [hTT]; exact inT2 (fun e => (nP_S_L e).elim) (fun _ => rfl)
  have C_is_whole : Cal l.prog w K mg base "is_whole" ["value"] 1 (sp_is_whole K) := ok_is_whole T D_is_whole
  have C_cycle_of : Cal l.prog w K mg base "cycle_of" ["items"] 1 (sp_cycle_of K) := ok_cycle_of T D_cycle_of
  have C_value_of : Cal l.prog w K mg base "value_of" ["rule", "x"] 1 (sp_value_of K) := ok_value_of T D_value_of
  have C_spaced : Cal l.prog w K mg base "spaced" ["items"] 1 (sp_spaced K) := ok_spaced T D_spaced
  have C_l_deck : Cal l.prog w K mg base "_law_deck" ["_law_script"] 1 (sp_l_deck K) := ok_l_deck T D_l_deck
  have C_l_draw : Cal l.prog w K mg base "_law_draw" ["_law_deck_here", "_law_many"] 1 (sp_l_draw K) := ok_l_draw T D_l_draw
  have C_l_value : Cal l.prog w K mg base "_law_value" ["_law_rule", "_law_x"] 1 (sp_l_value K) := ok_l_value T D_l_value

  have C_is_amount : Cal l.prog w K mg base "is_amount" ["value"] 2 (sp_is_amount K) := ok_is_amount T D_is_amount C_is_whole
  have C_shortest : Cal l.prog w K mg base "shortest" ["table", "period", "rise"] 2 (sp_shortest K) := ok_shortest T D_shortest C_cycle_of
  have C_l_one : Cal l.prog w K mg base "_law_one" ["_law_deck_here", "_law_items"] 2 (sp_l_one K) := ok_l_one T D_l_one C_l_draw
  have C_l_drawn : Cal l.prog w K mg base "_law_drawn" ["_law_deck_here", "_law_upto"] 2 (sp_l_drawn K) := ok_l_drawn T D_l_drawn C_l_draw
  have C_l_fits : Cal l.prog w K mg base "_law_fits" ["_law_rule", "_law_few", "_law_period"] 2 (sp_l_fits K) := ok_l_fits T D_l_fits C_l_value
  have C_told_error : Cal l.prog w K mg base "told_error" ["table", "period", "rise"] 3 (sp_told_error K) := ok_told_error T D_told_error C_is_amount C_is_whole
  have C_l_short : Cal l.prog w K mg base "_law_short" ["_law_rule"] 3 (sp_l_short K) := ok_l_short T D_l_short C_l_fits
  have C_l_odd : Cal l.prog w K mg base "_law_odd" ["_law_deck_here"] 3 (sp_l_odd K) := ok_l_odd T D_l_odd C_l_one
  have C_rule_error : Cal l.prog w K mg base "rule_error" ["value"] 4 (sp_rule_error K) := ok_rule_error T D_rule_error C_shortest C_told_error
  have C_canonical := ok_canonical (P := l.prog) (w := w) (base := base) T XBadRule iBadRule D_canonical C_told_error C_shortest
  have C_l_word : Cal l.prog w K mg base "_law_word" ["_law_rule"] 4 (sp_l_word K) := ok_l_word T D_l_word C_l_short C_l_value
  have C_rule_errorO := ok_rule_errorO (P := l.prog) (w := w) (base := base) T k_Rule_tuple IRule D_rule_error C_told_error C_shortest
  have GX_Ri := ok_Rinit (P := l.prog) (w := w) (base := base) T R XBadRule iBadRule C_rule_error fun_Rule_init
  have GX_RiO := ok_RinitO (P := l.prog) (w := w) (base := base) T R XBadRule iBadRule C_rule_errorO fun_Rule_init
  have GX_RiX := fn_or GX_Ri GX_RiO
  have G_Ri := ok_Rinit0 GX_Ri
  have G_Req := ok_Req (P := l.prog) (w := w) (base := base) T R fun_Rule_eq
  have G_ReqT := ok_ReqT (P := l.prog) (w := w) (base := base) T R fun_Rule_eq
  have G_Rlen := ok_Rlen (P := l.prog) (w := w) (base := base) T R fun_Rule_len
  have G_Rit := ok_Rit (P := l.prog) (w := w) (base := base) T R fun_Rule_iter
  have G_Rstr := ok_Rstr (P := l.prog) (w := w) (base := base) T R C_spaced fun_Rule_str
  have GX_Rca := ok_Rcall (P := l.prog) (w := w) (base := base) T R XNoAmount iNoAmount C_is_amount C_value_of fun_Rule_call
  have G_Rca := ok_Rcall0 GX_Rca
  have GX_of := ok_Rof (P := l.prog) (w := w) (base := base) T R C_canonical G_Ri bin_Rule_init fun_Rule_of
  have G_of := ok_Rof0 GX_of
  have G_l_no_amount := ok_l_no_amount (P := l.prog) (w := w) (base := base) T R XNoAmount ⟨PySem.W.mg_of X G a_ChangeError⟩ k_NoAmount_ChangeError GX_Rca bin_Rule_call (fun_mk (st := s_l_no_amount) l_l_no_amount c_l_no_amount k_l_no_amount)
  have b_l_no_amount := (fun_mk (st := s_l_no_amount) l_l_no_amount c_l_no_amount k_l_no_amount).binds (ps := ["_law_one_here", "_law_value_here"]) fun _ _ _ _ _ _ us hl => match us, hl with | [_, _], _ => rfl
  have G_l_right := ok_l_right (P := l.prog) (w := w) (base := base) T R G_Ri bin_Rule_init G_Req G_ReqT bin_Rule_eq G_Rlen bin_Rule_len G_Rit bin_Rule_iter G_Rstr bin_Rule_str G_Rca bin_Rule_call G_l_no_amount (PySem.W.mg_of X G a_l_no_amount) k_l_no_amount b_l_no_amount C_l_draw C_l_one C_l_value C_l_word (fun_mk (st := s_l_right) l_l_right c_l_right k_l_right)
  have b_l_right := (fun_mk (st := s_l_right) l_l_right c_l_right k_l_right).binds (ps := ["_law_deck_here", "_law_one_here", "_law_rule"]) fun _ _ _ _ _ _ us hl => match us, hl with | [_, _, _], _ => rfl
  have G_l_refused := ok_l_refused (P := l.prog) (w := w) (base := base) (TT := TT) T R XBadRule ⟨PySem.W.mg_of X G a_ChangeError⟩ k_BadRule_ChangeError (fun_mk (st := s_l_refused) l_l_refused c_l_refused k_l_refused) rfl TBS hmS huS G_Ri GX_RiX bin_Rule_init C_l_odd D_l_is_bad
  have b_l_refused := (fun_mk (st := s_l_refused) l_l_refused c_l_refused k_l_refused).binds (ps := ["_law_deck_here", "_law_rule"]) fun _ _ _ _ _ _ us hl => match us, hl with | [_, _], _ => rfl
  exact ok_law (TT := TT) T R XBadRule ⟨PySem.W.mg_of X G a_ChangeError⟩ k_BadRule_ChangeError (fun_mk (st := s_law) l_law c_law k_law) rfl TBL hmL huL G_Ri GX_RiX bin_Rule_init G_of GX_of bin_Rule_of C_l_deck C_l_draw C_l_drawn C_l_short C_l_word G_l_right (PySem.W.mg_of X G a_l_right) k_l_right b_l_right G_l_refused (PySem.W.mg_of X G a_l_refused) k_l_refused b_l_refused D_l_is_bad

end Sm
open PySem PySem.W PyProof.Rows in
set_option maxRecDepth 100000 in
set_option maxHeartbeats 0 in
theorem PySem.Challenge.cw_smallchange_k71_rules_as_objects_holds : PySem.Challenge.rw_smallchange_k71_rules_as_objects.Holds := by
  w_on; o_law; k_head; (case hw => w_witness2)
  k_fill
  refine Sm.walk_at_lawTs (l := PySem.Challenge.rw_smallchange_k71_rules_as_objects) (k := 12) (x := "_law_script") (sp := Sm.sp_law) rfl rfl ⟨rfl, by decide, by decide⟩ (fun w h Y => PySem.W.km_in_of Y) ?F (fun _ _ _ a ns hl tb hS => ⟨a, ns, rfl, hS, hl, tb, fun _ => rfl⟩)
  case F =>
    intro w mg fa h KX G hmg own
    refine' Sm.all_mk KX G hmg own ?a_is_whole ?l_is_whole ?c_is_whole ?k_is_whole ?a_is_amount ?l_is_amount ?c_is_amount ?k_is_amount ?a_rule_error ?l_rule_error ?c_rule_error ?k_rule_error ?a_told_error ?l_told_error ?c_told_error ?k_told_error ?a_canonical ?l_canonical ?c_canonical ?k_canonical ?a_shortest ?l_shortest ?c_shortest ?k_shortest ?a_cycle_of ?l_cycle_of ?c_cycle_of ?k_cycle_of ?a_value_of ?l_value_of ?c_value_of ?k_value_of ?a_spaced ?l_spaced ?c_spaced ?k_spaced ?a_l_deck ?l_l_deck ?c_l_deck ?k_l_deck ?a_l_draw ?l_l_draw ?c_l_draw ?k_l_draw ?a_l_one ?l_l_one ?c_l_one ?k_l_one ?a_l_drawn ?l_l_drawn ?c_l_drawn ?k_l_drawn ?a_l_value ?l_l_value ?c_l_value ?k_l_value ?a_l_fits ?l_l_fits ?c_l_fits ?k_l_fits ?a_l_short ?l_l_short ?c_l_short ?k_l_short ?a_l_odd ?l_l_odd ?c_l_odd ?k_l_odd ?a_l_word ?l_l_word ?c_l_word ?k_l_word ?a_l_is_bad ?l_l_is_bad ?c_l_is_bad ?k_l_is_bad ?a_l_no_amount ?l_l_no_amount ?c_l_no_amount ?k_l_no_amount ?a_l_right ?l_l_right ?c_l_right ?k_l_right ?a_l_refused ?l_l_refused ?c_l_refused ?k_l_refused ?a_law ?l_law ?c_law ?k_law ?a_ChangeError ?e_ChangeError ?h_ChangeError ?t_ChangeError ?i_ChangeError ?g_cl ?t_cl ?a_BadRule ?x_BadRule ?fsa_BadRule ?fga_BadRule ?fgg_BadRule ?fno_BadRule ?fiC_BadRule ?fcl_BadRule ?tf_BadRule ?t_BadRule ?k_BadRule ?e_BadRule ?s_BadRule ?h_BadRule ?m_BadRule ?lf_BadRule ?cf_BadRule ?kf_BadRule ?a_NoAmount ?x_NoAmount ?fsa_NoAmount ?fga_NoAmount ?fgg_NoAmount ?fno_NoAmount ?fiC_NoAmount ?fcl_NoAmount ?tf_NoAmount ?t_NoAmount ?k_NoAmount ?e_NoAmount ?s_NoAmount ?h_NoAmount ?m_NoAmount ?lf_NoAmount ?cf_NoAmount ?kf_NoAmount ?isub_BadRule_ChangeError ?isub_NoAmount_ChangeError ?a_Rule ?pg_Rule ?hd_Rule ?po_Rule ?sa_Rule ?mk_Rule ?kp_Rule ?ha_Rule ?hm_Rule ?na_Rule_value ?na_Rule_table ?na_Rule_period ?na_Rule_rise ?at_Rule_init ?fn_Rule_init ?kf_Rule_init ?lf_Rule_init ?cf_Rule_init ?at_Rule_eq ?fn_Rule_eq ?kf_Rule_eq ?lf_Rule_eq ?cf_Rule_eq ?at_Rule_len ?fn_Rule_len ?kf_Rule_len ?lf_Rule_len ?cf_Rule_len ?at_Rule_iter ?fn_Rule_iter ?kf_Rule_iter ?lf_Rule_iter ?cf_Rule_iter ?at_Rule_str ?fn_Rule_str ?kf_Rule_str ?lf_Rule_str ?cf_Rule_str ?at_Rule_call ?fn_Rule_call ?kf_Rule_call ?lf_Rule_call ?cf_Rule_call ?rd_Rule ?ga_Rule ?cm_Rule_of ?rc_Rule_of ?fi_Rule_of ?kf_Rule_of ?lf_Rule_of ?cf_Rule_of ?fi_Rule_call ?tsub_Rule_tuple ?bsub_tuple_Rule ?is_Rule ?ty_Rule ?ne_Rule ?l_cS ?e_PS ?d_PS ?n_PS ?r_S ?l_cL ?e_PL ?d_PL ?n_PL ?r_L ?nP_S_L ?z__law_call ?z_abs ?z_all ?z_any ?z_bool ?z_int ?z_isinstance ?z_iter ?z_len ?z_list ?z_max ?z_min ?z_range ?z_repr ?z_str ?z_tuple ?g_gcd ?g_lcm ?g_MAX_TOLD
    (case a_is_whole => k_is)
    (case l_is_whole => k_is)
    (case c_is_whole => k_is)
    (case k_is_whole => k_is)
    (case a_is_amount => k_is)
    (case l_is_amount => k_is)
    (case c_is_amount => k_is)
    (case k_is_amount => k_is)
    (case a_rule_error => k_is)
    (case l_rule_error => k_is)
    (case c_rule_error => k_is)
    (case k_rule_error => k_is)
    (case a_told_error => k_is)
    (case l_told_error => k_is)
    (case c_told_error => k_is)
    (case k_told_error => k_is)
    (case a_canonical => k_is)
    (case l_canonical => k_is)
    (case c_canonical => k_is)
    (case k_canonical => k_is)
    (case a_shortest => k_is)
    (case l_shortest => k_is)
    (case c_shortest => k_is)
    (case k_shortest => k_is)
    (case a_cycle_of => k_is)
    (case l_cycle_of => k_is)
    (case c_cycle_of => k_is)
    (case k_cycle_of => k_is)
    (case a_value_of => k_is)
    (case l_value_of => k_is)
    (case c_value_of => k_is)
    (case k_value_of => k_is)
    (case a_spaced => k_is)
    (case l_spaced => k_is)
    (case c_spaced => k_is)
    (case k_spaced => k_is)
    (case a_l_deck => k_is)
    (case l_l_deck => k_is)
    (case c_l_deck => k_is)
    (case k_l_deck => k_is)
    (case a_l_draw => k_is)
    (case l_l_draw => k_is)
    (case c_l_draw => k_is)
    (case k_l_draw => k_is)
    (case a_l_one => k_is)
    (case l_l_one => k_is)
    (case c_l_one => k_is)
    (case k_l_one => k_is)
    (case a_l_drawn => k_is)
    (case l_l_drawn => k_is)
    (case c_l_drawn => k_is)
    (case k_l_drawn => k_is)
    (case a_l_value => k_is)
    (case l_l_value => k_is)
    (case c_l_value => k_is)
    (case k_l_value => k_is)
    (case a_l_fits => k_is)
    (case l_l_fits => k_is)
    (case c_l_fits => k_is)
    (case k_l_fits => k_is)
    (case a_l_short => k_is)
    (case l_l_short => k_is)
    (case c_l_short => k_is)
    (case k_l_short => k_is)
    (case a_l_odd => k_is)
    (case l_l_odd => k_is)
    (case c_l_odd => k_is)
    (case k_l_odd => k_is)
    (case a_l_word => k_is)
    (case l_l_word => k_is)
    (case c_l_word => k_is)
    (case k_l_word => k_is)
    (case a_l_is_bad => k_is)
    (case l_l_is_bad => k_is)
    (case c_l_is_bad => k_is)
    (case k_l_is_bad => k_is)
    (case a_l_no_amount => k_is)
    (case l_l_no_amount => k_is)
    (case c_l_no_amount => k_is)
    (case k_l_no_amount => k_is)
    (case a_l_right => k_is)
    (case l_l_right => k_is)
    (case c_l_right => k_is)
    (case k_l_right => k_is)
    (case a_l_refused => k_is)
    (case l_l_refused => k_is)
    (case c_l_refused => k_is)
    (case k_l_refused => k_is)
    (case a_law => k_is)
    (case l_law => k_is)
    (case c_law => k_is)
    (case k_law => k_is)
    (case a_ChangeError => first | k_is | rfl | decide +kernel)
    (case e_ChangeError => first | k_is | rfl | decide +kernel)
    (case h_ChangeError => first | k_is | rfl | decide +kernel)
    (case t_ChangeError => first | k_is | rfl | decide +kernel)
    (case i_ChangeError => first | k_is | rfl | decide +kernel)
    (case g_cl => first | k_is | rfl | decide +kernel)
    (case t_cl => first | k_is | rfl | decide +kernel)
    (case a_BadRule => first | k_is | rfl | decide +kernel)
    (case x_BadRule => first | k_is | rfl | decide +kernel)
    (case fsa_BadRule => first | k_is | rfl | decide +kernel)
    (case fga_BadRule => first | k_is | rfl | decide +kernel)
    (case fgg_BadRule => first | k_is | rfl | decide +kernel)
    (case fno_BadRule => first | k_is | rfl | decide +kernel)
    (case fiC_BadRule => first | k_is | rfl | decide +kernel)
    (case fcl_BadRule => first | k_is | rfl | decide +kernel)
    (case tf_BadRule => first | k_is | rfl | decide +kernel)
    (case t_BadRule => first | k_is | rfl | decide +kernel)
    (case k_BadRule => first | k_is | rfl | decide +kernel)
    (case e_BadRule => first | k_is | rfl | decide +kernel)
    (case s_BadRule => first | k_is | rfl | decide +kernel)
    (case h_BadRule => first | k_is | rfl | decide +kernel)
    (case m_BadRule => first | k_is | rfl | decide +kernel)
    (case lf_BadRule => first | k_is | rfl | decide +kernel)
    (case cf_BadRule => first | k_is | rfl | decide +kernel)
    (case kf_BadRule => first | k_is | rfl | decide +kernel)
    (case a_NoAmount => first | k_is | rfl | decide +kernel)
    (case x_NoAmount => first | k_is | rfl | decide +kernel)
    (case fsa_NoAmount => first | k_is | rfl | decide +kernel)
    (case fga_NoAmount => first | k_is | rfl | decide +kernel)
    (case fgg_NoAmount => first | k_is | rfl | decide +kernel)
    (case fno_NoAmount => first | k_is | rfl | decide +kernel)
    (case fiC_NoAmount => first | k_is | rfl | decide +kernel)
    (case fcl_NoAmount => first | k_is | rfl | decide +kernel)
    (case tf_NoAmount => first | k_is | rfl | decide +kernel)
    (case t_NoAmount => first | k_is | rfl | decide +kernel)
    (case k_NoAmount => first | k_is | rfl | decide +kernel)
    (case e_NoAmount => first | k_is | rfl | decide +kernel)
    (case s_NoAmount => first | k_is | rfl | decide +kernel)
    (case h_NoAmount => first | k_is | rfl | decide +kernel)
    (case m_NoAmount => first | k_is | rfl | decide +kernel)
    (case lf_NoAmount => first | k_is | rfl | decide +kernel)
    (case cf_NoAmount => first | k_is | rfl | decide +kernel)
    (case kf_NoAmount => first | k_is | rfl | decide +kernel)
    (case isub_BadRule_ChangeError => first | k_is | rfl | decide +kernel)
    (case isub_NoAmount_ChangeError => first | k_is | rfl | decide +kernel)
    (case a_Rule => first | k_is | rfl | decide +kernel)
    (case pg_Rule => first | k_is | rfl | decide +kernel)
    (case hd_Rule => first | k_is | rfl | decide +kernel)
    (case po_Rule => first | k_is | rfl | decide +kernel)
    (case sa_Rule => first | k_is | rfl | decide +kernel)
    (case mk_Rule => first | k_is | rfl | decide +kernel)
    (case kp_Rule => first | k_is | rfl | decide +kernel)
    (case ha_Rule => first | k_is | rfl | decide +kernel)
    (case hm_Rule => first | k_is | rfl | decide +kernel)
    (case na_Rule_value => first | k_is | rfl | decide +kernel)
    (case na_Rule_table => first | k_is | rfl | decide +kernel)
    (case na_Rule_period => first | k_is | rfl | decide +kernel)
    (case na_Rule_rise => first | k_is | rfl | decide +kernel)
    (case at_Rule_init => first | k_is | rfl | decide +kernel)
    (case fn_Rule_init => first | k_is | rfl | decide +kernel)
    (case kf_Rule_init => first | k_is | rfl | decide +kernel)
    (case lf_Rule_init => first | k_is | rfl | decide +kernel)
    (case cf_Rule_init => first | k_is | rfl | decide +kernel)
    (case at_Rule_eq => first | k_is | rfl | decide +kernel)
    (case fn_Rule_eq => first | k_is | rfl | decide +kernel)
    (case kf_Rule_eq => first | k_is | rfl | decide +kernel)
    (case lf_Rule_eq => first | k_is | rfl | decide +kernel)
    (case cf_Rule_eq => first | k_is | rfl | decide +kernel)
    (case at_Rule_len => first | k_is | rfl | decide +kernel)
    (case fn_Rule_len => first | k_is | rfl | decide +kernel)
    (case kf_Rule_len => first | k_is | rfl | decide +kernel)
    (case lf_Rule_len => first | k_is | rfl | decide +kernel)
    (case cf_Rule_len => first | k_is | rfl | decide +kernel)
    (case at_Rule_iter => first | k_is | rfl | decide +kernel)
    (case fn_Rule_iter => first | k_is | rfl | decide +kernel)
    (case kf_Rule_iter => first | k_is | rfl | decide +kernel)
    (case lf_Rule_iter => first | k_is | rfl | decide +kernel)
    (case cf_Rule_iter => first | k_is | rfl | decide +kernel)
    (case at_Rule_str => first | k_is | rfl | decide +kernel)
    (case fn_Rule_str => first | k_is | rfl | decide +kernel)
    (case kf_Rule_str => first | k_is | rfl | decide +kernel)
    (case lf_Rule_str => first | k_is | rfl | decide +kernel)
    (case cf_Rule_str => first | k_is | rfl | decide +kernel)
    (case at_Rule_call => first | k_is | rfl | decide +kernel)
    (case fn_Rule_call => first | k_is | rfl | decide +kernel)
    (case kf_Rule_call => first | k_is | rfl | decide +kernel)
    (case lf_Rule_call => first | k_is | rfl | decide +kernel)
    (case cf_Rule_call => first | k_is | rfl | decide +kernel)
    (case rd_Rule => first | k_is | rfl | decide +kernel)
    (case ga_Rule => first | k_is | rfl | decide +kernel)
    (case cm_Rule_of => first | k_is | rfl | decide +kernel)
    (case rc_Rule_of => first | k_is | rfl | decide +kernel)
    (case fi_Rule_of => first | k_is | rfl | decide +kernel)
    (case kf_Rule_of => first | k_is | rfl | decide +kernel)
    (case lf_Rule_of => first | k_is | rfl | decide +kernel)
    (case cf_Rule_of => first | k_is | rfl | decide +kernel)
    (case fi_Rule_call => first | k_is | rfl | decide +kernel)
    (case tsub_Rule_tuple => first | k_is | rfl | decide +kernel)
    (case bsub_tuple_Rule => first | k_is | rfl | decide +kernel)
    (case is_Rule => first | k_is | rfl | decide +kernel)
    (case ty_Rule => first | k_is | rfl | decide +kernel)
    (case ne_Rule => first | k_is | rfl | decide +kernel)
    (case l_cS => first | k_is | rfl | decide +kernel)
    (case e_PS => first | k_is | rfl | decide +kernel)
    (case d_PS => first | k_is | rfl | decide +kernel)
    (case n_PS => first | k_is | rfl | decide +kernel)
    (case r_S => decide +kernel)
    (case l_cL => first | k_is | rfl | decide +kernel)
    (case e_PL => first | k_is | rfl | decide +kernel)
    (case d_PL => first | k_is | rfl | decide +kernel)
    (case n_PL => first | k_is | rfl | decide +kernel)
    (case r_L => decide +kernel)
    (case nP_S_L => decide)
    (case z__law_call => k_is)
    (case z_abs => k_is)
    (case z_all => k_is)
    (case z_any => k_is)
    (case z_bool => k_is)
    (case z_int => k_is)
    (case z_isinstance => k_is)
    (case z_iter => k_is)
    (case z_len => k_is)
    (case z_list => k_is)
    (case z_max => k_is)
    (case z_min => k_is)
    (case z_range => k_is)
    (case z_repr => k_is)
    (case z_str => k_is)
    (case z_tuple => k_is)
    (case g_gcd => k_is)
    (case g_lcm => k_is)
    (case g_MAX_TOLD => k_is)
